/- PktAH: texts joined. -/
import Derived.Test.YtfebacopbacopaaDoorStmO
import Derived.Test.YtfebacopbacopaaDoorSrcF
import Derived.Test.YtfebacopbacopaaDoorRateB
import Derived.Test.YtfebacopbacopaaDoorMidN
import Derived.Test.YtfebacopbacopaaDoorCrcApp
import Derived.Deep.DeepCutAuto
import Derived.Test.YtfebacopbacopaaDoorRes
import Derived.Laws.StructEq
/- Packets: their numbers; what the dice make. -/
set_option linter.unusedVariables false
set_option linter.unusedSimpArgs false
namespace Go.Proofs.YtfebacopbacopaaDoor
open Go.RowKit Dice
namespace Pkt
/-- The numbers of a valid packet. -/
structure Good (s0 s1 s2 s3 : List UInt8) (ru se st nu de cl er : Nat) (L : List Int) : Prop where
  src : Sc.Src4 s0 s1 s2 s3
  ru9 : ru ≤ 65535
  se9 : se ≤ 1073741824
  st9 : st ≤ 9007199254740992
  rv : Rate.RV (nu : Int) (de : Int)
  cl9 : cl ≤ 2
  er9 : er ≤ 1099511627776
  inL : St.InS L
  l1 : 1 ≤ L.length
  l9 : L.length ≤ 100
  hf : St.fo (St.wds (St.df L)).length ≤ 8
theorem hbk {w w' : World} {b : Nat} {o : Obj} (h : Below w.heap.size w w') (e : w.heap[b]? = some o) : w'.heap[b]? = some o :=
  (h.block b (Array.getElem?_eq_some_iff.1 e).1).trans e
theorem fo_le (L : List Int) (h : L.length ≤ 100) : St.fo (St.wds (St.df L)).length ≤ 8 := by
  have := (St.wds_len (St.df L)).1
  rw [St.df_length] at this
  unfold St.fo; omega
theorem src4_of {s0 s1 s2 s3 : List UInt8} (h : s0 ∈ Rec.strs0 ∧ s1 ∈ Rec.strs1 ∧ s2 ∈ Rec.strs2 ∧ s3 ∈ Rec.strs3) : Sc.Src4 s0 s1 s2 s3 := Sc.src4_of h.1 h.2.1 h.2.2.1 h.2.2.2
theorem samples_ro (n : Nat) (N : Int) (hN : N = (n : Int)) (n1 : 1 ≤ n) (n2 : n ≤ 100) {W w : World} {d : Nat} {a : Option Addr} {len cap : Nat} {zs : List Int} (h : Di W w d a len cap zs) :
    Calls Tryd.prog 26 #[.pointer (some ⟨d, 0, none⟩), .int .i64 N] w fun e w' => (∃ b m c L, e = .returned (.slice b m c) ∧ m = L.length ∧ St.Ro w' b m c L ∧ St.InS L ∧ 1 ≤ m ∧ m ≤ n ∧ (∀ g o, b = some ⟨g, o, none⟩ → w.heap.size ≤ g)) ∧ Dice.Left W w w' d a len cap zs := by
  subst hN
  refine (Sm.samples_any n n1 n2 h).mono ?_
  rintro e w' ⟨⟨v, L, rfl, O, hin, l1, l2⟩, hl⟩
  obtain ⟨b, m, c, rfl, R⟩ := St.ro_any O
  have hm := R.len
  subst hm
  refine ⟨⟨b, _, c, L, rfl, rfl, R, fun x hx => ?_, l1, l2, fun g o e => ?_⟩, hl⟩
  · obtain ⟨j, hj, e⟩ := List.getElem_of_mem hx
    have := hin j hj
    unfold Sm.fn at this
    rw [List.getD_eq_getElem?_getD, List.getElem?_eq_getElem hj] at this
    rw [← e]; exact this
  · subst e
    rcases O with ⟨e, _⟩ | ⟨g', c', e, hb⟩
    · cases e
    · injection e with e1 e2 e3
      have := Option.some.inj e1
      injection this with e4 _
      have := hb.base
      omega
theorem ro_set {w : World} {a : Option Addr} {n c b : Nat} {L : List Int} (cs : Array Value) (h : St.Ro w a n c L) (hne : ∀ g o, a = some ⟨g, o, none⟩ → g ≠ b) : St.Ro (w.setRow b cs) a n c L := by
  refine ⟨h.len, h.nc, h.cap, fun h0 => ?_⟩
  obtain ⟨g, o, rfl, h1, h2⟩ := h.at_ h0
  have hb := setRow_other w b g cs (hne g o rfl)
  exact ⟨g, o, rfl, by simpa [World.setRow] using h1, fun j x hj => by rw [World.cell?_of_block (a := ⟨g, o + j, none⟩) hb]; exact h2 j x hj⟩
/-- What Packet returns. -/
def Packed (r : Ending) (w' : World) : Prop := ∃ (s0 s1 s2 s3 : List UInt8) (ru se st nu de cl er : Nat) (L : List Int) (a : Option Addr) (c : Nat), r = .returned (.agg #[.string ⟨⟨s0⟩⟩, .string ⟨⟨s1⟩⟩, .string ⟨⟨s2⟩⟩, .string ⟨⟨s3⟩⟩, .int .i64 (ru : Int), .int .i64 (se : Int), .int .i64 (st : Int), .int .i64 (nu : Int), .int .i64 (de : Int), .int .i64 (cl : Int), .int .i64 (er : Int), .slice a L.length c]) ∧ Good s0 s1 s2 s3 ru se st nu de cl er L ∧ St.Ro w' a L.length c L
set_option maxHeartbeats 8000000 in
set_option maxRecDepth 100000 in
theorem packet_any {W w : World} {d : Nat} {a : Option Addr} {len cap : Nat} {zs : List Int} (h : Di W w d a len cap zs) :
    Calls Tryd.prog 10 #[.pointer (some ⟨d, 0, none⟩)] w fun e w' => Packed e w' ∧ Dice.Left W w w' d a len cap zs := by
  have HD := Lib.hid h
  have hlt := h.lt
  clear h
  obtain ⟨w1, hw1⟩ : ∃ w1, w1 = w.alloc (.cells #[.string ⟨#[]⟩, .string ⟨#[]⟩, .string ⟨#[]⟩, .string ⟨#[]⟩, .int .i64 0, .int .i64 0, .int .i64 0, .int .i64 0, .int .i64 0, .int .i64 0, .int .i64 0, .slice none 0 0] 34) := ⟨_, rfl⟩
  have K1 := Lib.hid (show w1.heap[w.heap.size]? = some (.cells #[.string ⟨#[]⟩, .string ⟨#[]⟩, .string ⟨#[]⟩, .string ⟨#[]⟩, .int .i64 0, .int .i64 0, .int .i64 0, .int .i64 0, .int .i64 0, .int .i64 0, .int .i64 0, .slice none 0 0] 34 (0, 0)) by rw [hw1]; exact heap_alloc_new w _)
  have L1 : Hid (Dice.Left W w w1 d a len cap zs) := Lib.hid (by rw [hw1]; exact (Dice.Left.refl HD.out).below (new_block _))
  go_enter Tryd.func10, Tryd.ntmps10
  go_upto_region 1 with fail
  rw [← hw1]
  clear hw1
  go_wp2_with fail
  refine (Rec.source_any L1.out.di).mono ?_
  rintro e w2 ⟨⟨s0, s1, s2, s3, rfl, hs⟩, hl⟩
  have S4 := Lib.hid (src4_of hs)
  have K2 := Lib.hid ((hl.far.block w.heap.size (Array.getElem?_eq_some_iff.1 K1.out).1 (by simp; omega)).trans K1.out)
  have L2 := Lib.hid (L1.out.trans hl)
  clear hl K1 L1 hs
  go_wp2_with fail
  have I1 := Lib.hid (ints_alloc w2 [0, 1, 65535] 3)
  refine (pick_any w2.heap.size [0, 1, 65535] 3 3 (L2.out.di.below (new_block _)) (by simpa using I1.out) rfl (by omega) (by omega) (by have := L2.out.di.lt; omega) (by simp)).mono ?_
  rintro e w3 ⟨⟨x1, rfl, hx1⟩, hl⟩
  have b1 : 0 ≤ x1 ∧ x1 ≤ 65535 := by simp only [List.mem_cons, List.not_mem_nil, or_false] at hx1; omega
  have k2 := (Array.getElem?_eq_some_iff.1 K2.out).1
  have K3 := Lib.hid ((hl.far.block w.heap.size (by simp; omega) (by simp; omega)).trans ((heap_alloc_old w2 _ k2).trans K2.out))
  have L3 := Lib.hid ((L2.out.below (new_block _)).trans hl)
  clear hl I1 k2 hx1 K2 L2
  go_wp2_with fail
  have I2 := Lib.hid (ints_alloc w3 [0, 7, 1073741824] 3)
  refine (pick_any w3.heap.size [0, 7, 1073741824] 3 3 (L3.out.di.below (new_block _)) (by simpa using I2.out) rfl (by omega) (by omega) (by have := L3.out.di.lt; omega) (by simp)).mono ?_
  rintro e w4 ⟨⟨x2, rfl, hx2⟩, hl⟩
  have b2 : 0 ≤ x2 ∧ x2 ≤ 1073741824 := by simp only [List.mem_cons, List.not_mem_nil, or_false] at hx2; omega
  have k2 := (Array.getElem?_eq_some_iff.1 K3.out).1
  have K4 := Lib.hid ((hl.far.block w.heap.size (by simp; omega) (by simp; omega)).trans ((heap_alloc_old w3 _ k2).trans K3.out))
  have L4 := Lib.hid ((L3.out.below (new_block _)).trans hl)
  clear hl I2 k2 hx2 K3 L3
  go_wp2_with fail
  have I3 := Lib.hid (ints_alloc w4 [0, 1000000000000, 9007199254740992] 3)
  refine (pick_any w4.heap.size [0, 1000000000000, 9007199254740992] 3 3 (L4.out.di.below (new_block _)) (by simpa using I3.out) rfl (by omega) (by omega) (by have := L4.out.di.lt; omega) (by simp)).mono ?_
  rintro e w5 ⟨⟨x3, rfl, hx3⟩, hl⟩
  have b3 : 0 ≤ x3 ∧ x3 ≤ 9007199254740992 := by simp only [List.mem_cons, List.not_mem_nil, or_false] at hx3; omega
  have k2 := (Array.getElem?_eq_some_iff.1 K4.out).1
  have K5 := Lib.hid ((hl.far.block w.heap.size (by simp; omega) (by simp; omega)).trans ((heap_alloc_old w4 _ k2).trans K4.out))
  have L5 := Lib.hid ((L4.out.below (new_block _)).trans hl)
  clear hl I3 k2 hx3 K4 L4
  go_wp2_with fail
  refine (Rate.rate_any L5.out.di).mono ?_
  rintro e w6 ⟨⟨rn, rd, rfl, hrv⟩, hl⟩
  have K6 := Lib.hid ((hl.far.block w.heap.size (Array.getElem?_eq_some_iff.1 K5.out).1 (by simp; omega)).trans K5.out)
  have L6 := Lib.hid (L5.out.trans hl)
  clear hl K5 L5
  go_wp2_with fail
  refine (next_any 3 L6.out.di (by omega) (by omega)).mono ?_
  rintro e w7 ⟨⟨qc, rfl, qc0, qc1⟩, hl⟩
  have K7 := Lib.hid ((hl.far.block w.heap.size (Array.getElem?_eq_some_iff.1 K6.out).1 (by simp; omega)).trans K6.out)
  have L7 := Lib.hid (L6.out.trans hl)
  clear hl K6 L6
  go_wp2_with fail
  have I4 := Lib.hid (ints_alloc w7 [0, 50, 1099511627776] 3)
  refine (pick_any w7.heap.size [0, 50, 1099511627776] 3 3 (L7.out.di.below (new_block _)) (by simpa using I4.out) rfl (by omega) (by omega) (by have := L7.out.di.lt; omega) (by simp)).mono ?_
  rintro e w8 ⟨⟨x4, rfl, hx4⟩, hl⟩
  have b4 : 0 ≤ x4 ∧ x4 ≤ 1099511627776 := by simp only [List.mem_cons, List.not_mem_nil, or_false] at hx4; omega
  have k2 := (Array.getElem?_eq_some_iff.1 K7.out).1
  have K8 := Lib.hid ((hl.far.block w.heap.size (by simp; omega) (by simp; omega)).trans ((heap_alloc_old w7 _ k2).trans K7.out))
  have L8 := Lib.hid ((L7.out.below (new_block _)).trans hl)
  clear hl I4 k2 hx4 K7 L7
  go_wp2_with fail
  refine (samples_ro 24 24 rfl (by omega) (by omega) L8.out.di).mono ?_
  rintro e w9 ⟨⟨sa, sm, sc, L, rfl, hm, hR, hIn, l1, l9, hge⟩, hl⟩
  have z8 := (Array.getElem?_eq_some_iff.1 K8.out).1
  have K9 := Lib.hid ((hl.far.block w.heap.size z8 (by simp; omega)).trans K8.out)
  have L9 := Lib.hid (L8.out.trans hl)
  subst hm
  replace hR := Lib.hid hR
  replace hge := Lib.hid hge
  clear hl K8 L8
  obtain ⟨rn, rfl⟩ : ∃ n : Nat, rn = (n : Int) := ⟨rn.toNat, by have := hrv.n1; omega⟩
  obtain ⟨rd, rfl⟩ : ∃ n : Nat, rd = (n : Int) := ⟨rd.toNat, by have := hrv.d1; omega⟩
  obtain ⟨x1, rfl⟩ : ∃ n : Nat, x1 = (n : Int) := ⟨x1.toNat, by omega⟩
  obtain ⟨x2, rfl⟩ : ∃ n : Nat, x2 = (n : Int) := ⟨x2.toNat, by omega⟩
  obtain ⟨x3, rfl⟩ : ∃ n : Nat, x3 = (n : Int) := ⟨x3.toNat, by omega⟩
  obtain ⟨x4, rfl⟩ : ∃ n : Nat, x4 = (n : Int) := ⟨x4.toNat, by omega⟩
  obtain ⟨qc, rfl⟩ : ∃ n : Nat, qc = (n : Int) := ⟨qc.toNat, by omega⟩
  have GD : Hid (Good s0 s1 s2 s3 x1 x2 x3 rn rd qc x4 L) := Lib.hid ⟨S4.out, by omega, by omega, by omega, hrv, by omega, by omega, hIn, l1, by omega, fo_le L (by omega)⟩
  clear hrv hIn b1 b2 b3 b4 qc0 qc1
  go_wp2_with ((with_reducible refine Mid.str 34 (.tmp 2) (.tmp 24) w.heap.size 34 #[.string ⟨#[]⟩, .string ⟨#[]⟩, .string ⟨#[]⟩, .string ⟨#[]⟩, .int .i64 0, .int .i64 0, .int .i64 0, .int .i64 0, .int .i64 0, .int .i64 0, .int .i64 0, .slice none 0 0] #[.string ⟨⟨s0⟩⟩, .string ⟨⟨s1⟩⟩, .string ⟨⟨s2⟩⟩, .string ⟨⟨s3⟩⟩, .int .i64 (x1 : Int), .int .i64 (x2 : Int), .int .i64 (x3 : Int), .int .i64 (rn : Int), .int .i64 (rd : Int), .int .i64 (qc : Int), .int .i64 (x4 : Int), .slice sa L.length sc] K9.out ?_ ?_ ?_ ?_ ?_ ?_ ?_ ?_); (· rfl); (· rfl); (· first | rfl | simp [Act.eval]); (· first | rfl | simp [Act.eval]); (· kernel_rfl); (· rfl); (· simp [Value.oneCell']))
  have KZ := Lib.hid (setRow_heap _ _ _ #[.string ⟨⟨s0⟩⟩, .string ⟨⟨s1⟩⟩, .string ⟨⟨s2⟩⟩, .string ⟨⟨s3⟩⟩, .int .i64 (x1 : Int), .int .i64 (x2 : Int), .int .i64 (x3 : Int), .int .i64 (rn : Int), .int .i64 (rd : Int), .int .i64 (qc : Int), .int .i64 (x4 : Int), .slice sa L.length sc] _ _ K9.out)
  refine bodyPost_ret (results_cell_row rfl _ _ w.heap.size _ _ _ _ rfl KZ.out rfl (by rfl) rfl) rfl ⟨⟨s0, s1, s2, s3, x1, x2, x3, rn, rd, qc, x4, L, sa, sc, rfl, GD.out, ?_⟩, ?_⟩
  · exact ro_set _ hR.out (fun g o e => by have := hge.out g o e; omega)
  · exact Dice.Left.past HD.out L9.out (Mid.below_row (Below.refl _ _) _ _ (Nat.le_refl _))
end Pkt
end Go.Proofs.YtfebacopbacopaaDoor

/- packet.Valid of a valid packet. -/
set_option linter.unusedVariables false
set_option linter.unusedSimpArgs false
namespace Go.Proofs.YtfebacopbacopaaDoor
open Go.RowKit Dice
namespace Pkt
theorem c12 {w : World} {g : Nat} {a0 a1 a2 a3 a4 a5 a6 a7 a8 a9 a10 a11 : Value} {t : TypeId} (h : w.heap[g]? = some (.cells #[a0, a1, a2, a3, a4, a5, a6, a7, a8, a9, a10, a11] t (0, 0))) :
    w.cell? ⟨g, 0, none⟩ = some a0 ∧ w.cell? ⟨g, 1, none⟩ = some a1 ∧ w.cell? ⟨g, 2, none⟩ = some a2 ∧ w.cell? ⟨g, 3, none⟩ = some a3 ∧ w.cell? ⟨g, 4, none⟩ = some a4 ∧ w.cell? ⟨g, 5, none⟩ = some a5 ∧ w.cell? ⟨g, 6, none⟩ = some a6 ∧ w.cell? ⟨g, 7, none⟩ = some a7 ∧ w.cell? ⟨g, 8, none⟩ = some a8 ∧ w.cell? ⟨g, 9, none⟩ = some a9 ∧ w.cell? ⟨g, 10, none⟩ = some a10 ∧ w.cell? ⟨g, 11, none⟩ = some a11 :=
  ⟨cell_of_row w g 0 _ _ _ h, cell_of_row w g 1 _ _ _ h, cell_of_row w g 2 _ _ _ h, cell_of_row w g 3 _ _ _ h, cell_of_row w g 4 _ _ _ h, cell_of_row w g 5 _ _ _ h, cell_of_row w g 6 _ _ _ h, cell_of_row w g 7 _ _ _ h, cell_of_row w g 8 _ _ _ h, cell_of_row w g 9 _ _ _ h, cell_of_row w g 10 _ _ _ h, cell_of_row w g 11 _ _ _ h⟩
set_option maxHeartbeats 4000000 in
set_option maxRecDepth 100000 in
theorem head_yes {w : World} {s0 s1 s2 s3 : List UInt8} {ru se st nu de cl er : Nat} {L : List Int} {a : Option Addr} {c : Nat} (G : Good s0 s1 s2 s3 ru se st nu de cl er L) (hR : St.Ro w a L.length c L) :
    Calls Tryd.prog 40 #[.agg #[.string ⟨⟨s0⟩⟩, .string ⟨⟨s1⟩⟩, .string ⟨⟨s2⟩⟩, .string ⟨⟨s3⟩⟩, .int .i64 (ru : Int), .int .i64 (se : Int), .int .i64 (st : Int), .int .i64 (nu : Int), .int .i64 (de : Int), .int .i64 (cl : Int), .int .i64 (er : Int), .slice a L.length c]] w fun e w' => e = .returned (.bool true) ∧ Below w.heap.size w w' := by
  have SV := Lib.hid fun w' => Sc.valid_yes G.src w'
  have RV := Lib.hid fun w' => Rate.valid_yes _ _ G.rv w'
  obtain ⟨_, g1, g2, g3, _, g4, g5, _, _, _, _⟩ := G
  obtain ⟨w1, hw1⟩ : ∃ w1, w1 = w.alloc (.cells #[.string ⟨⟨s0⟩⟩, .string ⟨⟨s1⟩⟩, .string ⟨⟨s2⟩⟩, .string ⟨⟨s3⟩⟩, .int .i64 (ru : Int), .int .i64 (se : Int), .int .i64 (st : Int), .int .i64 (nu : Int), .int .i64 (de : Int), .int .i64 (cl : Int), .int .i64 (er : Int), .slice a L.length c] 34) := ⟨_, rfl⟩
  obtain ⟨p1, hp1⟩ : ∃ p, p = w.heap.size := ⟨_, rfl⟩
  have hb1 : Below w.heap.size w w1 := by rw [hw1]; exact new_block _
  have K1 := Lib.hid (show w1.heap[p1]? = some (.cells #[.string ⟨⟨s0⟩⟩, .string ⟨⟨s1⟩⟩, .string ⟨⟨s2⟩⟩, .string ⟨⟨s3⟩⟩, .int .i64 (ru : Int), .int .i64 (se : Int), .int .i64 (st : Int), .int .i64 (nu : Int), .int .i64 (de : Int), .int .i64 (cl : Int), .int .i64 (er : Int), .slice a L.length c] 34 (0, 0)) by rw [hw1, hp1]; exact heap_alloc_new w _)
  have B1 := Lib.hid hb1
  have R1 := Lib.hid (hR.below hb1)
  obtain ⟨q0, q1, q2, q3, q4, q5, q6, q7, q8, q9, q10, q11⟩ := c12 K1.out
  go_enter Tryd.func40, Tryd.ntmps40
  go_upto_region 1 with fail
  rw [← hw1, ← hp1]
  clear hw1 hb1 hp1
  go_wp2_with fail
  refine (SV.out _).mono ?_
  rintro e w2 ⟨rfl, hb⟩
  replace K1 := Lib.hid (hbk hb K1.out)
  replace B1 := Lib.hid (Buf.then_ B1.out hb)
  clear hb q0 q1 q2 q3 q4 q5 q6 q7 q8 q9 q10 q11
  obtain ⟨q0, q1, q2, q3, q4, q5, q6, q7, q8, q9, q10, q11⟩ := c12 K1.out
  go_wp2_with fail
  refine (RV.out _).mono ?_
  rintro e w3 ⟨rfl, hb⟩
  replace K1 := Lib.hid (hbk hb K1.out)
  replace B1 := Lib.hid (Buf.then_ B1.out hb)
  clear hb q0 q1 q2 q3 q4 q5 q6 q7 q8 q9 q10 q11
  obtain ⟨q0, q1, q2, q3, q4, q5, q6, q7, q8, q9, q10, q11⟩ := c12 K1.out
  go_wp2_with (go_at_call 32; refine (Rate.within_yes _ _ _ _ (by omega) (by omega)).mono ?_; rintro e w' ⟨rfl, m, rfl⟩)
  go_ret
  exact ⟨rfl, by repeat (first | exact B1.out | refine Buf.below_drewN ?_ _)⟩
set_option maxHeartbeats 4000000 in
set_option maxRecDepth 100000 in
theorem samples_yes {w : World} {s0 s1 s2 s3 : List UInt8} {ru se st nu de cl er : Nat} {L : List Int} {a : Option Addr} {c : Nat} (G : Good s0 s1 s2 s3 ru se st nu de cl er L) (hR : St.Ro w a L.length c L) :
    Calls Tryd.prog 41 #[.agg #[.string ⟨⟨s0⟩⟩, .string ⟨⟨s1⟩⟩, .string ⟨⟨s2⟩⟩, .string ⟨⟨s3⟩⟩, .int .i64 (ru : Int), .int .i64 (se : Int), .int .i64 (st : Int), .int .i64 (nu : Int), .int .i64 (de : Int), .int .i64 (cl : Int), .int .i64 (er : Int), .slice a L.length c]] w fun e w' => e = .returned (.bool true) ∧ Below w.heap.size w w' := by
  have l1 := G.l1
  have l9 := G.l9
  obtain ⟨w1, hw1⟩ : ∃ w1, w1 = w.alloc (.cells #[.string ⟨⟨s0⟩⟩, .string ⟨⟨s1⟩⟩, .string ⟨⟨s2⟩⟩, .string ⟨⟨s3⟩⟩, .int .i64 (ru : Int), .int .i64 (se : Int), .int .i64 (st : Int), .int .i64 (nu : Int), .int .i64 (de : Int), .int .i64 (cl : Int), .int .i64 (er : Int), .slice a L.length c] 34) := ⟨_, rfl⟩
  obtain ⟨p1, hp1⟩ : ∃ p, p = w.heap.size := ⟨_, rfl⟩
  have hb1 : Below w.heap.size w w1 := by rw [hw1]; exact new_block _
  have K1 := Lib.hid (show w1.heap[p1]? = some (.cells #[.string ⟨⟨s0⟩⟩, .string ⟨⟨s1⟩⟩, .string ⟨⟨s2⟩⟩, .string ⟨⟨s3⟩⟩, .int .i64 (ru : Int), .int .i64 (se : Int), .int .i64 (st : Int), .int .i64 (nu : Int), .int .i64 (de : Int), .int .i64 (cl : Int), .int .i64 (er : Int), .slice a L.length c] 34 (0, 0)) by rw [hw1, hp1]; exact heap_alloc_new w _)
  have B1 := Lib.hid hb1
  have R1 := Lib.hid (hR.below hb1)
  obtain ⟨q0, q1, q2, q3, q4, q5, q6, q7, q8, q9, q10, q11⟩ := c12 K1.out
  have EN := Lib.hid (St.encode_any R1.out l1 (by omega) G.inL G.hf)
  clear G
  go_enter Tryd.func41, Tryd.ntmps41
  go_upto_region 1 with fail
  rw [← hw1, ← hp1]
  clear hw1 hb1 hp1
  go_wp2_with fail
  refine EN.out.mono ?_
  rintro e w2 ⟨rfl, hb⟩
  go_wp2_with fail
  go_ret
  exact ⟨rfl, Buf.then_ B1.out hb⟩
set_option maxHeartbeats 4000000 in
set_option maxRecDepth 100000 in
theorem valid_yes {w : World} {s0 s1 s2 s3 : List UInt8} {ru se st nu de cl er : Nat} {L : List Int} {a : Option Addr} {c : Nat} (G : Good s0 s1 s2 s3 ru se st nu de cl er L) (hR : St.Ro w a L.length c L) :
    Calls Tryd.prog 23 #[.agg #[.string ⟨⟨s0⟩⟩, .string ⟨⟨s1⟩⟩, .string ⟨⟨s2⟩⟩, .string ⟨⟨s3⟩⟩, .int .i64 (ru : Int), .int .i64 (se : Int), .int .i64 (st : Int), .int .i64 (nu : Int), .int .i64 (de : Int), .int .i64 (cl : Int), .int .i64 (er : Int), .slice a L.length c]] w fun e w' => e = .returned (.bool true) ∧ Below w.heap.size w w' := by
  obtain ⟨w1, hw1⟩ : ∃ w1, w1 = w.alloc (.cells #[.string ⟨⟨s0⟩⟩, .string ⟨⟨s1⟩⟩, .string ⟨⟨s2⟩⟩, .string ⟨⟨s3⟩⟩, .int .i64 (ru : Int), .int .i64 (se : Int), .int .i64 (st : Int), .int .i64 (nu : Int), .int .i64 (de : Int), .int .i64 (cl : Int), .int .i64 (er : Int), .slice a L.length c] 34) := ⟨_, rfl⟩
  obtain ⟨p1, hp1⟩ : ∃ p, p = w.heap.size := ⟨_, rfl⟩
  have hb1 : Below w.heap.size w w1 := by rw [hw1]; exact new_block _
  have K1 := Lib.hid (show w1.heap[p1]? = some (.cells #[.string ⟨⟨s0⟩⟩, .string ⟨⟨s1⟩⟩, .string ⟨⟨s2⟩⟩, .string ⟨⟨s3⟩⟩, .int .i64 (ru : Int), .int .i64 (se : Int), .int .i64 (st : Int), .int .i64 (nu : Int), .int .i64 (de : Int), .int .i64 (cl : Int), .int .i64 (er : Int), .slice a L.length c] 34 (0, 0)) by rw [hw1, hp1]; exact heap_alloc_new w _)
  have B1 := Lib.hid hb1
  have R1 := Lib.hid (hR.below hb1)
  obtain ⟨q0, q1, q2, q3, q4, q5, q6, q7, q8, q9, q10, q11⟩ := c12 K1.out
  have HV := Lib.hid fun w' (h : Below w1.heap.size w1 w') => head_yes G (R1.out.below h)
  have SM := Lib.hid fun w' (h : Below w1.heap.size w1 w') => samples_yes G (R1.out.below h)
  clear G q0 q1 q2 q3 q4 q5 q6 q7 q8 q9 q10 q11
  go_enter Tryd.func23, Tryd.ntmps23
  go_upto_region 1 with fail
  rw [← hw1, ← hp1]
  clear hw1 hb1 hp1
  go_wp2_with ((with_reducible refine Mid.ldr 34 (.tmp 1) p1 34 #[.string ⟨⟨s0⟩⟩, .string ⟨⟨s1⟩⟩, .string ⟨⟨s2⟩⟩, .string ⟨⟨s3⟩⟩, .int .i64 (ru : Int), .int .i64 (se : Int), .int .i64 (st : Int), .int .i64 (nu : Int), .int .i64 (de : Int), .int .i64 (cl : Int), .int .i64 (er : Int), .slice a L.length c] K1.out ?_ ?_ ?_ ?_ ?_ ?_); (· rfl); (· rfl); (· first | rfl | simp [Act.eval]); (· exact ⟨_, rfl, rfl⟩); (· kernel_rfl))
  refine (HV.out _ (Below.refl _ _)).mono ?_
  rintro e w2 ⟨rfl, hb⟩
  have K2 := Lib.hid (hbk hb K1.out)
  replace B1 := Lib.hid (Buf.then_ B1.out hb)
  have B2 := Lib.hid hb
  clear hb
  go_wp2_with ((with_reducible refine Mid.ldrg 34 (.tmp 1) p1 34 #[.string ⟨⟨s0⟩⟩, .string ⟨⟨s1⟩⟩, .string ⟨⟨s2⟩⟩, .string ⟨⟨s3⟩⟩, .int .i64 (ru : Int), .int .i64 (se : Int), .int .i64 (st : Int), .int .i64 (nu : Int), .int .i64 (de : Int), .int .i64 (cl : Int), .int .i64 (er : Int), .slice a L.length c] K2.out ?_ ?_ ?_ ?_ ?_ ?_); (· rfl); (· first | rfl | simp [Region.wanted, yielded]); (· first | rfl | simp [Act.eval]); (· exact ⟨_, rfl, rfl⟩); (· kernel_rfl))
  refine (SM.out _ B2.out).mono ?_
  rintro e w3 ⟨rfl, hb⟩
  go_wp2_with fail
  go_ret
  exact ⟨rfl, Buf.then_ B1.out hb⟩
end Pkt
end Go.Proofs.YtfebacopbacopaaDoor

/- The bytes of a packet: the header's fields, the whole, and what is read from it. -/
set_option linter.unusedVariables false
set_option linter.unusedSimpArgs false
namespace Go.Proofs.YtfebacopbacopaaDoor
open Go.RowKit Dice
namespace Pkt
/-- The fields of the header, their values and widths. -/
def flds (cl ru se st nu de er n tl fr : Nat) : List (Nat × Nat) := [(cl, 1), (ru, 2), (se, 4), (st, 7), (nu, 2), (de, 2), (er, 6), (n, 2), (tl, 1), (fr, 1)]
def hb (F : List (Nat × Nat)) : List UInt8 := F.flatMap fun p => Ma.beTo p.1 p.2 0
def hd (F : List (Nat × Nat)) : List UInt8 := [83, 78, 1] ++ hb F
/-- All values fit. -/
def Fok (F : List (Nat × Nat)) : Prop := ∀ p ∈ F, 1 ≤ p.2 ∧ p.2 ≤ 7 ∧ p.1 < 2 ^ (8 * p.2)
theorem hd_step (F : List (Nat × Nat)) (k v wd : Nat) (h : F[k]? = some (v, wd)) : hd (F.take (k + 1)) = hd (F.take k) ++ Ma.beTo v wd 0 := by
  unfold hd hb
  rw [List.take_add_one, h]
  simp
theorem hb_len (F : List (Nat × Nat)) : (hb F).length = (F.map (·.2)).sum := by
  unfold hb
  induction F with
  | nil => rfl
  | cons p F ih => rw [List.flatMap_cons, List.length_append, ih, Ma.beTo_length]; simp
theorem hd_len (F : List (Nat × Nat)) : (hd F).length = 3 + (F.map (·.2)).sum := by
  unfold hd
  rw [List.length_append, hb_len]; rfl
theorem flds_len (cl ru se st nu de er n tl fr : Nat) : (hd (flds cl ru se st nu de er n tl fr)).length = 31 := by rw [hd_len]; rfl
/-- The cells of a list of fields. -/
def fcs (F : List (Nat × Nat)) : List Value := F.flatMap fun p => [.int .i64 (p.1 : Int), .int .i64 (p.2 : Int)]
theorem fcs_get : ∀ (F : List (Nat × Nat)) (k v wd : Nat), F[k]? = some (v, wd) → (fcs F)[k * 2]? = some (.int .i64 (v : Int)) ∧ (fcs F)[k * 2 + 1]? = some (.int .i64 (wd : Int))
  | [], _, _, _, h => by simp at h
  | p :: F, 0, v, wd, h => by
    simp at h; subst h; exact ⟨rfl, rfl⟩
  | p :: F, k + 1, v, wd, h => by
    have := fcs_get F k v wd (by simpa using h)
    rw [show (k + 1) * 2 = k * 2 + 2 by omega]
    exact this
/-- What a field reads as. -/
theorem field_at (A B : List (Nat × Nat)) (v wd p : Nat) (r : List UInt8) (hv : v < 2 ^ (8 * wd)) (hp : p = 3 + (A.map (·.2)).sum) : Ma.gv (((hd (A ++ (v, wd) :: B) ++ r).drop p).take wd) = v := by
  have e : hd (A ++ (v, wd) :: B) ++ r = hd A ++ (Ma.beTo v wd 0 ++ (hb B ++ r)) := by
    unfold hd hb
    simp
  have hl : (hd A).length = p := by rw [hd_len, hp]
  have hb' : (Ma.beTo v wd 0).length = wd := by rw [Ma.beTo_length]; rfl
  rw [e, ← hl, List.drop_left, List.take_left' hb', Ma.gv_be v wd hv wd 0 (by omega)]
  simp
/-- The bytes behind the header. -/
def body (F : List (Nat × Nat)) (t f : List UInt8) : List UInt8 := hd F ++ t ++ f
def pk (F : List (Nat × Nat)) (t f : List UInt8) : List UInt8 := body F t f ++ Ma.leTo (Cm.updOf 0 (body F t f)) 4
theorem pk_len (F : List (Nat × Nat)) (t f : List UInt8) : (pk F t f).length = (hd F).length + t.length + f.length + 4 := by
  unfold pk body
  simp [Ma.leTo_length]; omega
theorem pk_chk (F : List (Nat × Nat)) (t f : List UInt8) : Crc.chk (pk F t f) = true := by
  rw [Crc.chk_long (by rw [pk_len]; omega)]
  have h : (pk F t f).length - 4 = (body F t f).length := by unfold pk; simp [Ma.leTo_length]
  rw [h]
  unfold pk
  rw [List.take_left]
  simp
theorem pk_hd (F : List (Nat × Nat)) (t f : List UInt8) : pk F t f = hd F ++ (t ++ f ++ Ma.leTo (Cm.updOf 0 (body F t f)) 4) := by
  unfold pk body; simp
theorem fok1 {v w m : Nat} (hv : v ≤ m) (h1 : 1 ≤ w) (h7 : w ≤ 7) (hm : m < 2 ^ (8 * w)) : 1 ≤ (v, w).2 ∧ (v, w).2 ≤ 7 ∧ (v, w).1 < 2 ^ (8 * (v, w).2) := ⟨h1, h7, Nat.lt_of_le_of_lt hv hm⟩
theorem flds_ok {s0 s1 s2 s3 : List UInt8} {ru se st nu de cl er : Nat} {L : List Int} (G : Good s0 s1 s2 s3 ru se st nu de cl er L) {tl fr : Nat} (h1 : tl ≤ 255) (h2 : fr ≤ 255) : Fok (flds cl ru se st nu de er L.length tl fr) := by
  obtain ⟨_, g1, g2, g3, g6, g4, g5, _, _, g7, _⟩ := G
  have r2 := g6.n2
  have r4 := g6.d2
  intro p hp
  unfold flds at hp
  simp only [List.mem_cons, List.not_mem_nil, or_false] at hp
  rcases hp with rfl | rfl | rfl | rfl | rfl | rfl | rfl | rfl | rfl | rfl
  · exact fok1 g4 (by decide) (by decide) (by decide)
  · exact fok1 g1 (by decide) (by decide) (by decide)
  · exact fok1 g2 (by decide) (by decide) (by decide)
  · exact fok1 g3 (by decide) (by decide) (by decide)
  · exact fok1 (show nu ≤ 4096 by omega) (by decide) (by decide) (by decide)
  · exact fok1 (show de ≤ 4096 by omega) (by decide) (by decide) (by decide)
  · exact fok1 g5 (by decide) (by decide) (by decide)
  · exact fok1 g7 (by decide) (by decide) (by decide)
  · exact fok1 h1 (by decide) (by decide) (by decide)
  · exact fok1 h2 (by decide) (by decide) (by decide)
theorem enc_len (L : List Int) : (St.enc L).length = 64 * St.fo (St.wds (St.df L)).length := by
  unfold St.enc
  rw [St.bys_length, St.allw_length]; omega
theorem j4_len {s0 s1 s2 s3 : List UInt8} (h : Sc.Src4 s0 s1 s2 s3) : 8 ≤ (Sc.j4 s0 s1 s2 s3).length ∧ (Sc.j4 s0 s1 s2 s3).length ≤ 15 := by
  have a := h.l0
  have b := h.l1
  have c := h.l2
  have d := h.l3
  unfold Sc.j4
  simp only [List.length_append, List.length_cons]
  omega
end Pkt
end Go.Proofs.YtfebacopbacopaaDoor

/- packet.Encode of a valid packet. -/
set_option linter.unusedVariables false
set_option linter.unusedSimpArgs false
namespace Go.Proofs.YtfebacopbacopaaDoor
open Go.RowKit Dice
namespace Pkt
theorem str_add (a b : List UInt8) : (ByteArray.mk ⟨a⟩) ++ ⟨⟨b⟩⟩ = ⟨⟨a ++ b⟩⟩ := by
  apply ByteArray.ext
  apply Array.ext'
  simp
set_option maxHeartbeats 8000000 in
set_option maxRecDepth 100000 in
theorem encode_any {w : World} {s0 s1 s2 s3 : List UInt8} {ru se st nu de cl er : Nat} {L : List Int} {a : Option Addr} {c : Nat} (G : Good s0 s1 s2 s3 ru se st nu de cl er L) (hR : St.Ro w a L.length c L) :
    Calls Tryd.prog 11 #[.agg #[.string ⟨⟨s0⟩⟩, .string ⟨⟨s1⟩⟩, .string ⟨⟨s2⟩⟩, .string ⟨⟨s3⟩⟩, .int .i64 (ru : Int), .int .i64 (se : Int), .int .i64 (st : Int), .int .i64 (nu : Int), .int .i64 (de : Int), .int .i64 (cl : Int), .int .i64 (er : Int), .slice a L.length c]] w fun e w' => e = .returned (.tuple #[.string ⟨⟨(pk (flds cl ru se st nu de er L.length (Sc.j4 s0 s1 s2 s3).length (St.fo (St.wds (St.df L)).length)) (Sc.j4 s0 s1 s2 s3) (St.enc L))⟩⟩, .int .i64 0]) ∧ Below w.heap.size w w' := by
  obtain ⟨w1, hw1⟩ : ∃ w1, w1 = w.alloc (.cells #[.string ⟨⟨s0⟩⟩, .string ⟨⟨s1⟩⟩, .string ⟨⟨s2⟩⟩, .string ⟨⟨s3⟩⟩, .int .i64 (ru : Int), .int .i64 (se : Int), .int .i64 (st : Int), .int .i64 (nu : Int), .int .i64 (de : Int), .int .i64 (cl : Int), .int .i64 (er : Int), .slice a L.length c] 34) := ⟨_, rfl⟩
  obtain ⟨p1, hp1⟩ : ∃ p, p = w.heap.size := ⟨_, rfl⟩
  have hb1 : Below w.heap.size w w1 := by rw [hw1]; exact new_block _
  have K1 := Lib.hid (show w1.heap[p1]? = some (.cells #[.string ⟨⟨s0⟩⟩, .string ⟨⟨s1⟩⟩, .string ⟨⟨s2⟩⟩, .string ⟨⟨s3⟩⟩, .int .i64 (ru : Int), .int .i64 (se : Int), .int .i64 (st : Int), .int .i64 (nu : Int), .int .i64 (de : Int), .int .i64 (cl : Int), .int .i64 (er : Int), .slice a L.length c] 34 (0, 0)) by rw [hw1, hp1]; exact heap_alloc_new w _)
  have B1 := Lib.hid hb1
  have R1 := Lib.hid (hR.below hb1)
  obtain ⟨q0, q1, q2, q3, q4, q5, q6, q7, q8, q9, q10, q11⟩ := c12 K1.out
  have VY := Lib.hid (valid_yes G R1.out)
  have FM := Lib.hid fun w' => Sc.format_any G.src w'
  have EN := Lib.hid fun w' (h : Below w1.heap.size w1 w') => St.encode_any (R1.out.below h) G.l1 (by have := G.l9; omega) G.inL G.hf
  have tl9 := j4_len G.src
  have fr1 : 1 ≤ St.fo (St.wds (St.df L)).length := by unfold St.fo; omega
  have fr9 := G.hf
  have elen := enc_len L
  have FO := Lib.hid (flds_ok G (tl := (Sc.j4 s0 s1 s2 s3).length) (fr := St.fo (St.wds (St.df L)).length) (by omega) (by omega))
  have FL31 := Lib.hid (flds_len cl ru se st nu de er L.length (Sc.j4 s0 s1 s2 s3).length (St.fo (St.wds (St.df L)).length))
  have l1 := G.l1
  have l9 := G.l9
  clear G
  generalize Sc.j4 s0 s1 s2 s3 = T at *
  generalize St.fo (St.wds (St.df L)).length = fr at *
  generalize St.enc L = E at *
  have hE : E.length = 64 * fr := elen
  obtain ⟨F, hF⟩ : ∃ F, F = flds cl ru se st nu de er L.length T.length fr := ⟨_, rfl⟩
  rw [← hF] at FO FL31 ⊢
  have F10 : Hid (F.length = 10) := Lib.hid (by rw [hF]; rfl)
  have FC : Hid (fcs F = [.int .i64 (cl : Int), .int .i64 1, .int .i64 (ru : Int), .int .i64 2, .int .i64 (se : Int), .int .i64 4, .int .i64 (st : Int), .int .i64 7, .int .i64 (nu : Int), .int .i64 2, .int .i64 (de : Int), .int .i64 2, .int .i64 (er : Int), .int .i64 6, .int .i64 (L.length : Int), .int .i64 2, .int .i64 (T.length : Int), .int .i64 1, .int .i64 (fr : Int), .int .i64 1]) := Lib.hid (by rw [hF]; rfl)
  replace hF := Lib.hid hF
  go_enter Tryd.func11, Tryd.ntmps11
  go_upto_region 1 with fail
  rw [← hw1, ← hp1]
  clear hw1 hb1 hp1
  go_wp2_with ((with_reducible refine Mid.ldr 34 (.tmp 1) p1 34 #[.string ⟨⟨s0⟩⟩, .string ⟨⟨s1⟩⟩, .string ⟨⟨s2⟩⟩, .string ⟨⟨s3⟩⟩, .int .i64 (ru : Int), .int .i64 (se : Int), .int .i64 (st : Int), .int .i64 (nu : Int), .int .i64 (de : Int), .int .i64 (cl : Int), .int .i64 (er : Int), .slice a L.length c] K1.out ?_ ?_ ?_ ?_ ?_ ?_); (· rfl); (· rfl); (· first | rfl | simp [Act.eval]); (· exact ⟨_, rfl, rfl⟩); (· kernel_rfl))
  refine VY.out.mono ?_
  rintro e w2 ⟨rfl, hb⟩
  have W2 := Lib.hid hb
  replace K1 := Lib.hid (hbk hb K1.out)
  replace B1 := Lib.hid (Buf.then_ B1.out hb)
  clear hb q0 q1 q2 q3 q4 q5 q6 q7 q8 q9 q10 q11
  obtain ⟨q0, q1, q2, q3, q4, q5, q6, q7, q8, q9, q10, q11⟩ := c12 K1.out
  go_wp2_with fail
  refine (FM.out _).mono ?_
  rintro e w3 ⟨rfl, hb⟩
  replace W2 := Lib.hid (Buf.then_ W2.out hb)
  replace K1 := Lib.hid (hbk hb K1.out)
  replace B1 := Lib.hid (Buf.then_ B1.out hb)
  clear hb q0 q1 q2 q3 q4 q5 q6 q7 q8 q9 q10 q11
  obtain ⟨q0, q1, q2, q3, q4, q5, q6, q7, q8, q9, q10, q11⟩ := c12 K1.out
  go_wp2_with fail
  refine (EN.out _ W2.out).mono ?_
  rintro e w4 ⟨rfl, hb⟩
  replace W2 := Lib.hid (Buf.then_ W2.out hb)
  replace K1 := Lib.hid (hbk hb K1.out)
  replace B1 := Lib.hid (Buf.then_ B1.out hb)
  clear hb q0 q1 q2 q3 q4 q5 q6 q7 q8 q9 q10 q11
  obtain ⟨q0, q1, q2, q3, q4, q5, q6, q7, q8, q9, q10, q11⟩ := c12 K1.out
  have ediv : (E.length : Int) / 64 = (fr : Int) := by rw [hE]; omega
  have H0 : Hid (hd (F.take 0) = [83, 78, 1]) := Lib.hid rfl
  replace hE := Lib.hid hE
  clear elen W2 EN FM VY R1
  go_upto_region 7 with fail
  obtain ⟨w5, hw5⟩ : ∃ w5, w5 = w4.alloc (.cells #[.int .i64 (cl : Int), .int .i64 1, .int .i64 (ru : Int), .int .i64 2, .int .i64 (se : Int), .int .i64 4, .int .i64 (st : Int), .int .i64 7, .int .i64 (nu : Int), .int .i64 2, .int .i64 (de : Int), .int .i64 2, .int .i64 (er : Int), .int .i64 6, .int .i64 (L.length : Int), .int .i64 2, .int .i64 (T.length : Int), .int .i64 1, .int .i64 (fr : Int), .int .i64 1] 66) := ⟨_, rfl⟩
  obtain ⟨gF, hgF⟩ : ∃ p, p = w4.heap.size := ⟨_, rfl⟩
  have hb5 : Below w4.heap.size w4 w5 := by rw [hw5]; exact new_block _
  have KF := Lib.hid (show w5.heap[gF]? = some (.cells (fcs F).toArray 66 (0, 0)) by rw [hw5, hgF, FC.out]; exact heap_alloc_new w4 _)
  replace B1 := Lib.hid (Buf.then_ B1.out hb5)
  rw [← hw5, ← hgF]
  clear hw5 hgF hb5 q0 q1 q2 q3 q4 q5 q6 q7 q8 q9 q10 q11 K1 FC
  have T9 : T.length ≤ 15 := by omega
  have E9 : E.length ≤ 512 := by rw [hE.out]; omega
  go_loopw [8, 64] (fun v8 v64 wr => ∃ k : Nat, k ≤ 10 ∧ v8 = .string ⟨⟨hd (F.take k)⟩⟩ ∧ v64 = .int .i64 k ∧ Hid (Below w5.heap.size w5 wr)) (fun _ v _ => 10 - (intOf v).toNat)
  case atStart => exact ⟨0, by omega, by rw [H0.out], rfl, Lib.hid (Below.refl _ _)⟩
  case round =>
    obtain ⟨k, hk, rfl, rfl, BJ⟩ := hrel
    by_cases hlt : k < 10
    · obtain ⟨⟨v, wd⟩, hF1⟩ : ∃ p, F[k]? = some p := ⟨F[k]'(by rw [F10.out]; exact hlt), by simp⟩
      obtain ⟨o1, o2, o3⟩ := FO.out _ (List.mem_of_getElem? hF1)
      obtain ⟨e1, e2⟩ := fcs_get F k v wd hF1
      have KR := hbk BJ.out KF.out
      have y0 := (cell_of_row wr gF (k * 2) _ _ _ KR).trans (by simpa using e1 : (fcs F).toArray[k * 2]? = some (.int .i64 (v : Int)))
      have y1 := (cell_of_row wr gF (k * 2 + 1) _ _ _ KR).trans (by simpa using e2 : (fcs F).toArray[k * 2 + 1]? = some (.int .i64 (wd : Int)))
      have HS := hd_step F k v wd hF1
      have hl0 : (hd (F.take k)).length ≤ 31 := by
        rw [hd_len, ← FL31.out, hd_len]
        have : (F.take k).map (·.2) = (F.map (·.2)).take k := by rw [List.map_take]
        rw [this]
        have h2 : ((F.map (·.2)).take k).sum + ((F.map (·.2)).drop k).sum = (F.map (·.2)).sum := by rw [← List.sum_append_nat, List.take_append_drop]
        omega
      have PY := Lib.hid fun w' => Bits.put_yes ⟨⟨hd (F.take k)⟩⟩ v wd w' (by show (hd (F.take k)).length ≤ 1000000; omega) o1 o2 o3
      have HS' : Ma.cat ⟨⟨hd (F.take k)⟩⟩ (Ma.beTo v wd 0) = ⟨⟨hd (F.take (k + 1))⟩⟩ := by rw [HS]; rfl
      rw [HS'] at PY
      clear HS HS' KR e1 e2 hF1 o1 o2 o3 hl0
      generalize hh1 : hd (F.take (k + 1)) = H1 at *
      replace hh1 := Lib.hid hh1
      generalize hd (F.take k) = H2 at *
      go_wp2_with (go_at_call 28; (with_reducible refine (PY.out _).mono ?_); rintro e w7 ⟨rfl, hb⟩)
      have BN := Lib.hid (Buf.then_ (Buf.then_ BJ.out (new_block (.cells #[.int .i64 (v : Int), .int .i64 (wd : Int)] 66))) hb)
      go_roundw
      case rel => exact ⟨k + 1, by omega, by rw [hh1.out], by go_num, BN⟩
      case measure => simp [intOf]; omega
    · obtain rfl : k = 10 := by omega
      have hF : F.take 10 = F := List.take_of_length_le (by rw [F10.out]; omega)
      rw [hF]
      have HL : (hd F).length = 31 := FL31.out
      have AP := Lib.hid fun w' => (by
        have h := Crc.append_any ⟨⟨hd F ++ T ++ E⟩⟩ w' (by show (hd F ++ T ++ E).length ≤ 1000000; simp only [List.length_append]; omega)
        rw [str_add, str_add]
        exact h : Calls Tryd.prog 29 #[.string (ByteArray.mk ⟨hd F⟩ ++ ⟨⟨T⟩⟩ ++ ⟨⟨E⟩⟩)] w' fun e w'' => e = .returned (.string ⟨⟨pk F T E⟩⟩) ∧ Below w'.heap.size w' w'')
      have z1 : ¬ (9223372036854775807 < (hd F).length + T.length) := by omega
      have z2 : ¬ (9223372036854775807 < (hd F).length + T.length + E.length) := by omega
      clear HL hF
      go_wp2_with (go_at_call 29; (with_reducible refine (AP.out _).mono ?_); rintro e w7 ⟨rfl, hb⟩)
      go_ret2
      exact ⟨rfl, Buf.then_ (Buf.then_ B1.out BJ.out) hb⟩
end Pkt
end Go.Proofs.YtfebacopbacopaaDoor

/- packet.Length. -/
set_option linter.unusedVariables false
set_option linter.unusedSimpArgs false
namespace Go.Proofs.YtfebacopbacopaaDoor
open Go.RowKit Dice
namespace Pkt
set_option maxHeartbeats 8000000 in
set_option maxRecDepth 100000 in
theorem length_short (l : List UInt8) (h : l.length < 31) (w : World) : Calls Tryd.prog 13 #[.string ⟨⟨l⟩⟩] w fun e w' => e = .returned (.tuple #[.int .i64 0, .int .i64 4]) ∧ Below w.heap.size w w' := by
  go_enter Tryd.func13, Tryd.ntmps13
  go_wp2_with fail
  go_ret2
  exact ⟨rfl, Below.refl _ _⟩
set_option maxHeartbeats 8000000 in
set_option maxRecDepth 100000 in
theorem length_any (l : List UInt8) (tl fr : Nat) (h31 : 31 ≤ l.length) (h9 : l.length ≤ 1000000) (hm : l.take 3 = [83, 78, 1]) (ht : (l.getD 29 0).toNat = tl) (hf : (l.getD 30 0).toNat = fr) (t8 : 8 ≤ tl) (t15 : tl ≤ 15) (f1 : 1 ≤ fr) (f8 : fr ≤ 8) (w : World) :
    Calls Tryd.prog 13 #[.string ⟨⟨l⟩⟩] w fun e w' => e = .returned (.tuple #[.int .i64 ((31 + tl + fr * 64 + 4 : Nat) : Int), .int .i64 0]) ∧ Below w.heap.size w w' := by
  go_enter Tryd.func13, Tryd.ntmps13
  have i29 : (29 : Int) < (l.length : Int) := by omega
  have i30 : (30 : Int) < (l.length : Int) := by omega
  have h31' : ¬ ((l.length : Int) < 31) := by omega
  go_upto_region 3 with fail
  go_quiet (fail)
  have hsz : (ByteArray.mk ⟨l⟩).size = l.length := rfl
  have e29 : ((ByteArray.mk ⟨l⟩)[29]'(by rw [hsz]; omega)).toNat = tl := by
    rw [← ht]
    show (l[29]'(by omega)).toNat = _
    rw [List.getD_eq_getElem?_getD, List.getElem?_eq_getElem (by omega)]; rfl
  have e30 : ((ByteArray.mk ⟨l⟩)[30]'(by rw [hsz]; omega)).toNat = fr := by
    rw [← hf]
    show (l[30]'(by omega)).toNat = _
    rw [List.getD_eq_getElem?_getD, List.getElem?_eq_getElem (by omega)]; rfl
  rw [e29, e30, show wrap64 (tl : Int) = tl by simp only [wrap64]; omega, show wrap64 (fr : Int) = fr by simp only [wrap64]; omega]
  have ex : (ByteArray.mk ⟨l⟩).extract 0 3 = ⟨#[83, 78, 1]⟩ := by
    apply ByteArray.ext
    apply Array.ext'
    simp [hm]
  clear hsz e29 e30 ht hf hm
  go_wp2_with (go_at_call 32; refine (Rate.within_yes _ _ _ _ (by omega) (by omega)).mono ?_; rintro e w' ⟨rfl, m, rfl⟩)
  go_ret2
  exact ⟨rfl, by repeat (first | exact Below.refl _ _ | refine Buf.below_drewN ?_ _)⟩
end Pkt
end Go.Proofs.YtfebacopbacopaaDoor

/- The cursor of packet.read. -/
set_option linter.unusedVariables false
set_option linter.unusedSimpArgs false
namespace Go.Proofs.YtfebacopbacopaaDoor
open Go.RowKit Dice
namespace Pkt
theorem c2 {w : World} {g : Nat} {a b : Value} {t : TypeId} (h : w.heap[g]? = some (.cells #[a, b] t (0, 0))) : w.cell? ⟨g, 0, none⟩ = some a ∧ w.cell? ⟨g, 1, none⟩ = some b := ⟨cell_of_row w g 0 _ _ _ h, cell_of_row w g 1 _ _ _ h⟩
set_option maxHeartbeats 8000000 in
set_option maxRecDepth 100000 in
theorem number_any {w : World} {g p wd : Nat} {wI : Int} {l : List UInt8} (hI : wI = (wd : Int)) (K : w.heap[g]? = some (.cells #[.string ⟨⟨l⟩⟩, .int .i64 (p : Int)] 101 (0, 0))) (h1 : 1 ≤ wd) (h7 : wd ≤ 7) (hp : p + wd ≤ l.length) (h9 : l.length ≤ 1000000) :
    Calls Tryd.prog 51 #[.pointer (some ⟨g, 0, none⟩), .int .i64 wI] w fun e w' => e = .returned (.int .i64 (Ma.gv ((l.drop p).take wd) : Nat)) ∧ ∃ m, w' = (w.drewN m).setCell ⟨g, 1, none⟩ (.int .i64 ((p + wd : Nat) : Int)) := by
  subst hI
  have GO := Lib.hid fun w' => Bits.get_ok ⟨⟨l⟩⟩ p wd w' (by show l.length ≤ 1000000; exact h9) h1 h7 (by show p + wd ≤ l.length; exact hp)
  have eg : (ByteArray.mk ⟨l⟩).data.toList = l := rfl
  rw [eg] at GO
  generalize Ma.gv ((l.drop p).take wd) = V at *
  obtain ⟨x0, x1⟩ := c2 K
  have g1 := frozen_of_row w g 1 _ _ K
  clear eg K
  go_enter Tryd.func51, Tryd.ntmps51
  go_upto_region 1 with fail
  go_quiet ((go_at_call 69; exact Calls.quiet_of (GO.out _)))
  go_wp2_with fail
  go_ret
  exact ⟨rfl, nq, by rw [show ((p + wd : Nat) : Int) = (p : Int) + (wd : Int) by omega]⟩
set_option maxHeartbeats 8000000 in
set_option maxRecDepth 100000 in
theorem bytes_any {w : World} {g p n : Nat} {nI : Int} {l : List UInt8} (hI : nI = (n : Int)) (K : w.heap[g]? = some (.cells #[.string ⟨⟨l⟩⟩, .int .i64 (p : Int)] 101 (0, 0))) (hp : p + n ≤ l.length) (h9 : l.length ≤ 1000000) :
    Calls Tryd.prog 52 #[.pointer (some ⟨g, 0, none⟩), .int .i64 nI] w fun e w' => e = .returned (.string ⟨⟨(l.drop p).take n⟩⟩) ∧ ∃ m, w' = (w.drewN m).setCell ⟨g, 1, none⟩ (.int .i64 ((p + n : Nat) : Int)) := by
  subst hI
  have ex : (ByteArray.mk ⟨l⟩).extract p (p + n) = ⟨⟨(l.drop p).take n⟩⟩ := by
    apply ByteArray.ext
    apply Array.ext'
    simp [List.extract_eq_take_drop, List.drop_take]
  have hsz : (ByteArray.mk ⟨l⟩).size = l.length := rfl
  generalize (l.drop p).take n = V at *
  obtain ⟨x0, x1⟩ := c2 K
  have g1 := frozen_of_row w g 1 _ _ K
  have b1 : (0 : Int) ≤ (p : Int) := by omega
  have b2 : (p : Int) ≤ (p : Int) + (n : Int) := by omega
  have b3 : (p : Int) + (n : Int) ≤ (l.length : Int) := by omega
  clear K
  go_enter Tryd.func52, Tryd.ntmps52
  go_upto_region 1 with fail
  go_quiet (fail)
  go_wp2_with fail
  rw [ex]
  go_ret
  exact ⟨rfl, nq, by rw [show ((p + n : Nat) : Int) = (p : Int) + (n : Int) by omega]⟩
end Pkt
end Go.Proofs.YtfebacopbacopaaDoor

/- packet.read of the bytes of a packet. -/
set_option linter.unusedVariables false
set_option linter.unusedSimpArgs false
namespace Go.Proofs.YtfebacopbacopaaDoor
open Go.RowKit Dice
namespace Pkt
/-- The memory of read: the result, the cursor, the packet. -/
structure RD (w : World) (B : Nat) (l : List UInt8) (wr : World) (p : Nat) (cs : Array Value) : Prop where
  k2 : wr.heap[B]? = some (.cells #[.string ⟨#[]⟩, .string ⟨#[]⟩, .string ⟨#[]⟩, .string ⟨#[]⟩, .int .i64 0, .int .i64 0, .int .i64 0, .int .i64 0, .int .i64 0, .int .i64 0, .int .i64 0, .slice none 0 0] 34 (0, 0))
  k3 : wr.heap[B + 1]? = some (.cells #[.string ⟨⟨l⟩⟩, .int .i64 (p : Int)] 101 (0, 0))
  k4 : wr.heap[B + 1 + 1]? = some (.cells cs 34 (0, 0))
  bel : Below w.heap.size w wr
  hB : w.heap.size ≤ B
theorem RD.below {w wr w' : World} {B p : Nat} {l : List UInt8} {cs : Array Value} (M : RD w B l wr p cs) (h : Below wr.heap.size wr w') : RD w B l w' p cs :=
  ⟨hbk h M.k2, hbk h M.k3, hbk h M.k4, Buf.then_ M.bel h, M.hB⟩
theorem RD.num {w wr : World} {B p : Nat} {l : List UInt8} {cs : Array Value} (M : RD w B l wr p cs) (m q : Nat) : RD w B l ((wr.drewN m).setCell ⟨B + 1, 1, none⟩ (.int .i64 (q : Int))) q cs :=
  ⟨(Below.heap_setCell (wr.drewN m) ⟨B + 1, 1, none⟩ _ B (by show B ≠ B + 1; omega)).trans M.k2, (heap_setCell_same (wr.drewN m) (B + 1) 1 _ _ _ M.k3).trans rfl,
    (Below.heap_setCell (wr.drewN m) ⟨B + 1, 1, none⟩ _ (B + 1 + 1) (by show B + 1 + 1 ≠ B + 1; omega)).trans M.k4, (Buf.below_drewN M.bel m).setCell (p := ⟨B + 1, 1, none⟩) (by have := M.hB; show w.heap.size ≤ B + 1; omega) _, M.hB⟩
theorem RD.put {w wr : World} {B p : Nat} {l : List UInt8} {cs : Array Value} (M : RD w B l wr p cs) (j : Nat) (v : Value) : RD w B l (wr.setCell ⟨B + 1 + 1, j, none⟩ v) p (cs.setIfInBounds j v) :=
  ⟨(Below.heap_setCell wr ⟨B + 1 + 1, j, none⟩ _ B (by show B ≠ B + 1 + 1; omega)).trans M.k2, (Below.heap_setCell wr ⟨B + 1 + 1, j, none⟩ _ (B + 1) (by show B + 1 ≠ B + 1 + 1; omega)).trans M.k3,
    heap_setCell_same wr (B + 1 + 1) j _ _ _ M.k4, M.bel.setCell (p := ⟨B + 1 + 1, j, none⟩) (by have := M.hB; show w.heap.size ≤ B + 1 + 1; omega) _, M.hB⟩
theorem f12 {w : World} {g : Nat} {cs : Array Value} {t : TypeId} (h : w.heap[g]? = some (.cells cs t (0, 0))) (j : Nat) : w.frozen? ⟨g, j, none⟩ = false := frozen_of_row w g j _ _ h
/-- What the bytes say. -/
structure Says (l : List UInt8) (s0 s1 s2 s3 : List UInt8) (ru se st nu de cl er : Nat) (L : List Int) (tl fr : Nat) : Prop where
  len : l.length = 31 + tl + 64 * fr + 4
  vcl : Ma.gv ((l.drop 3).take 1) = cl
  vru : Ma.gv ((l.drop 4).take 2) = ru
  vse : Ma.gv ((l.drop 6).take 4) = se
  vst : Ma.gv ((l.drop 10).take 7) = st
  vnu : Ma.gv ((l.drop 17).take 2) = nu
  vde : Ma.gv ((l.drop 19).take 2) = de
  ver : Ma.gv ((l.drop 21).take 6) = er
  vn : Ma.gv ((l.drop 27).take 2) = L.length
  vtl : Ma.gv ((l.drop 29).take 1) = tl
  vfr : Ma.gv ((l.drop 30).take 1) = fr
  txt : (l.drop 31).take tl = Sc.j4 s0 s1 s2 s3
  frm : (l.drop (31 + tl)).take (64 * fr) = St.enc L
  tl9 : tl ≤ 15
  fr9 : fr ≤ 8
theorem ro_kept {w w' : World} {a : Option Addr} {n c : Nat} {L : List Int} (h : St.Ro w a n c L) (hk : ∀ g o, a = some ⟨g, o, none⟩ → w'.heap[g]? = w.heap[g]?) (hs : w.heap.size ≤ w'.heap.size) : St.Ro w' a n c L := by
  refine ⟨h.len, h.nc, h.cap, fun h0 => ?_⟩
  obtain ⟨g, o, rfl, h1, h2⟩ := h.at_ h0
  exact ⟨g, o, rfl, by omega, fun j x hj => by rw [World.cell?_of_block (a := ⟨g, o + j, none⟩) (hk g o rfl)]; exact h2 j x hj⟩
theorem decode_all (L : List Int) (hL : St.InS L) (hf : St.fo (St.wds (St.df L)).length ≤ 8) (l1 : 1 ≤ L.length) (l9 : L.length ≤ 420) (n : Int) (hn : n = (L.length : Int)) (w : World) :
    Calls Tryd.prog 53 #[.string ⟨⟨St.enc L⟩⟩, .int .i64 n] w fun e w' => (∃ b c, e = .returned (.tuple #[.slice b L.length c, .int .i64 0]) ∧ St.Ro w' b L.length c L ∧ (∀ g o, b = some ⟨g, o, none⟩ → w.heap.size ≤ g)) ∧ Below w.heap.size w w' := by
  subst hn
  refine (St.decode_encB L hL (L.getD (L.length - 1) 0 % 4294967296) (by omega) (by omega) hf L.length l1 (Nat.le_refl _) l9 _ (St.sg32 _ (St.getD_in hL _)) w).mono ?_
  rintro e w' ⟨h, hb⟩
  rcases h with ⟨_, b, c, h1, h2, h3⟩ | ⟨h, _⟩
  · rw [List.take_length] at h2
    exact ⟨⟨b, c, h1, h2, h3⟩, hb⟩
  · exact absurd rfl h
set_option maxHeartbeats 8000000 in
set_option maxRecDepth 100000 in
theorem read_any {w : World} {l s0 s1 s2 s3 : List UInt8} {ru se st nu de cl er tl fr : Nat} {L : List Int} (G : Good s0 s1 s2 s3 ru se st nu de cl er L) (S : Says l s0 s1 s2 s3 ru se st nu de cl er L tl fr) (hm : Sc.Mx w) :
    Calls Tryd.prog 31 #[.string ⟨⟨l⟩⟩] w fun e w' => (∃ a c, e = .returned (.agg #[.string ⟨⟨s0⟩⟩, .string ⟨⟨s1⟩⟩, .string ⟨⟨s2⟩⟩, .string ⟨⟨s3⟩⟩, .int .i64 (ru : Int), .int .i64 (se : Int), .int .i64 (st : Int), .int .i64 (nu : Int), .int .i64 (de : Int), .int .i64 (cl : Int), .int .i64 (er : Int), .slice a L.length c]) ∧ St.Ro w' a L.length c L ∧ (∀ g o, a = some ⟨g, o, none⟩ → w.heap.size ≤ g)) ∧ Below w.heap.size w w' := by
  have l9 : l.length ≤ 1000000 := by have := S.len; have := S.tl9; have := S.fr9; omega
  have l31 : l.length = 31 + tl + 64 * fr + 4 := S.len
  obtain ⟨w0, hw0⟩ : ∃ w0, w0 = ((w.alloc (.cells #[.string ⟨#[]⟩, .string ⟨#[]⟩, .string ⟨#[]⟩, .string ⟨#[]⟩, .int .i64 0, .int .i64 0, .int .i64 0, .int .i64 0, .int .i64 0, .int .i64 0, .int .i64 0, .slice none 0 0] 34)).alloc (.cells #[.string ⟨⟨l⟩⟩, .int .i64 3] 101)).alloc (.cells #[.string ⟨#[]⟩, .string ⟨#[]⟩, .string ⟨#[]⟩, .string ⟨#[]⟩, .int .i64 0, .int .i64 0, .int .i64 0, .int .i64 0, .int .i64 0, .int .i64 0, .int .i64 0, .slice none 0 0] 34) := ⟨_, rfl⟩
  obtain ⟨B, hB⟩ : ∃ B, B = w.heap.size := ⟨_, rfl⟩
  have M : RD w B l w0 3 #[.string ⟨#[]⟩, .string ⟨#[]⟩, .string ⟨#[]⟩, .string ⟨#[]⟩, .int .i64 0, .int .i64 0, .int .i64 0, .int .i64 0, .int .i64 0, .int .i64 0, .int .i64 0, .slice none 0 0] := by
    have s1 : (w.alloc (.cells #[.string ⟨#[]⟩, .string ⟨#[]⟩, .string ⟨#[]⟩, .string ⟨#[]⟩, .int .i64 0, .int .i64 0, .int .i64 0, .int .i64 0, .int .i64 0, .int .i64 0, .int .i64 0, .slice none 0 0] 34)).heap.size = w.heap.size + 1 := by simp
    have s2 : ((w.alloc (.cells #[.string ⟨#[]⟩, .string ⟨#[]⟩, .string ⟨#[]⟩, .string ⟨#[]⟩, .int .i64 0, .int .i64 0, .int .i64 0, .int .i64 0, .int .i64 0, .int .i64 0, .int .i64 0, .slice none 0 0] 34)).alloc (.cells #[.string ⟨⟨l⟩⟩, .int .i64 3] 101)).heap.size = w.heap.size + 1 + 1 := by simp
    refine ⟨?_, ?_, ?_, ?_, by omega⟩
    · rw [hw0, hB]; exact (heap_alloc_old _ _ (by rw [s2]; omega)).trans ((heap_alloc_old _ _ (by rw [s1]; omega)).trans (heap_alloc_new w _))
    · rw [hw0, hB]; exact (heap_alloc_old _ _ (by rw [s2]; omega)).trans (by rw [← s1]; exact heap_alloc_new _ _)
    · rw [hw0, hB, ← s2]; exact heap_alloc_new _ _
    · rw [hw0]; exact Buf.then_ (Buf.then_ (new_block _) (new_block _)) (new_block _)
  replace M := Lib.hid M
  have S1 := Lib.hid S
  have G1 := Lib.hid G
  clear S G
  go_enter Tryd.func31, Tryd.ntmps31
  go_upto_region 3 with fail
  rw [← hw0, ← hB]
  clear hw0 hB
  have N3 := number_any (p := 3) (wd := 1) (wI := 1) rfl M.out.k3 (by omega) (by omega) (by omega) l9
  rw [S1.out.vcl] at N3
  replace N3 := Lib.hid N3
  go_wp2_with fail
  with_reducible refine N3.out.mono ?_
  rintro e w1 ⟨rfl, m1, hw⟩
  replace M := Lib.hid (M.out.num m1 4)
  rw [← hw] at M
  clear hw N3
  have f1 := f12 M.out.k4 9
  have y1 : w1.cell? ⟨B + 1 + 1, 9, none⟩ = some (.int .i64 0) := cell_of_row w1 (B + 1 + 1) 9 _ _ _ M.out.k4
  replace M := Lib.hid (M.out.put 9 (.int .i64 (cl : Int)))
  obtain ⟨w2, hw⟩ : ∃ w2, w2 = w1.setCell ⟨B + 1 + 1, 9, none⟩ (.int .i64 (cl : Int)) := ⟨_, rfl⟩
  rw [← hw] at M
  replace M := Lib.hid (show RD w B l w2 4 #[.string ⟨#[]⟩, .string ⟨#[]⟩, .string ⟨#[]⟩, .string ⟨#[]⟩, .int .i64 0, .int .i64 0, .int .i64 0, .int .i64 0, .int .i64 0, .int .i64 (cl : Int), .int .i64 0, .slice none 0 0] from M.out)
  
  go_upto_region 4 with fail
  rw [← hw]
  clear hw f1 y1
  have N4 := number_any (p := 4) (wd := 2) (wI := 2) rfl M.out.k3 (by omega) (by omega) (by omega) l9
  rw [S1.out.vru] at N4
  replace N4 := Lib.hid N4
  go_wp2_with fail
  with_reducible refine N4.out.mono ?_
  rintro e w3 ⟨rfl, m3, hw⟩
  replace M := Lib.hid (M.out.num m3 6)
  rw [← hw] at M
  clear hw N4
  have f3 := f12 M.out.k4 4
  have y3 : w3.cell? ⟨B + 1 + 1, 4, none⟩ = some (.int .i64 0) := cell_of_row w3 (B + 1 + 1) 4 _ _ _ M.out.k4
  replace M := Lib.hid (M.out.put 4 (.int .i64 (ru : Int)))
  obtain ⟨w4, hw⟩ : ∃ w4, w4 = w3.setCell ⟨B + 1 + 1, 4, none⟩ (.int .i64 (ru : Int)) := ⟨_, rfl⟩
  rw [← hw] at M
  replace M := Lib.hid (show RD w B l w4 6 #[.string ⟨#[]⟩, .string ⟨#[]⟩, .string ⟨#[]⟩, .string ⟨#[]⟩, .int .i64 (ru : Int), .int .i64 0, .int .i64 0, .int .i64 0, .int .i64 0, .int .i64 (cl : Int), .int .i64 0, .slice none 0 0] from M.out)
  
  go_upto_region 5 with fail
  rw [← hw]
  clear hw f3 y3
  have N6 := number_any (p := 6) (wd := 4) (wI := 4) rfl M.out.k3 (by omega) (by omega) (by omega) l9
  rw [S1.out.vse] at N6
  replace N6 := Lib.hid N6
  go_wp2_with fail
  with_reducible refine N6.out.mono ?_
  rintro e w5 ⟨rfl, m5, hw⟩
  replace M := Lib.hid (M.out.num m5 10)
  rw [← hw] at M
  clear hw N6
  have f5 := f12 M.out.k4 5
  have y5 : w5.cell? ⟨B + 1 + 1, 5, none⟩ = some (.int .i64 0) := cell_of_row w5 (B + 1 + 1) 5 _ _ _ M.out.k4
  replace M := Lib.hid (M.out.put 5 (.int .i64 (se : Int)))
  obtain ⟨w6, hw⟩ : ∃ w6, w6 = w5.setCell ⟨B + 1 + 1, 5, none⟩ (.int .i64 (se : Int)) := ⟨_, rfl⟩
  rw [← hw] at M
  replace M := Lib.hid (show RD w B l w6 10 #[.string ⟨#[]⟩, .string ⟨#[]⟩, .string ⟨#[]⟩, .string ⟨#[]⟩, .int .i64 (ru : Int), .int .i64 (se : Int), .int .i64 0, .int .i64 0, .int .i64 0, .int .i64 (cl : Int), .int .i64 0, .slice none 0 0] from M.out)
  
  go_upto_region 6 with fail
  rw [← hw]
  clear hw f5 y5
  have N10 := number_any (p := 10) (wd := 7) (wI := 7) rfl M.out.k3 (by omega) (by omega) (by omega) l9
  rw [S1.out.vst] at N10
  replace N10 := Lib.hid N10
  go_wp2_with fail
  with_reducible refine N10.out.mono ?_
  rintro e w7 ⟨rfl, m7, hw⟩
  replace M := Lib.hid (M.out.num m7 17)
  rw [← hw] at M
  clear hw N10
  have f7 := f12 M.out.k4 6
  have y7 : w7.cell? ⟨B + 1 + 1, 6, none⟩ = some (.int .i64 0) := cell_of_row w7 (B + 1 + 1) 6 _ _ _ M.out.k4
  replace M := Lib.hid (M.out.put 6 (.int .i64 (st : Int)))
  obtain ⟨w8, hw⟩ : ∃ w8, w8 = w7.setCell ⟨B + 1 + 1, 6, none⟩ (.int .i64 (st : Int)) := ⟨_, rfl⟩
  rw [← hw] at M
  replace M := Lib.hid (show RD w B l w8 17 #[.string ⟨#[]⟩, .string ⟨#[]⟩, .string ⟨#[]⟩, .string ⟨#[]⟩, .int .i64 (ru : Int), .int .i64 (se : Int), .int .i64 (st : Int), .int .i64 0, .int .i64 0, .int .i64 (cl : Int), .int .i64 0, .slice none 0 0] from M.out)
  
  go_upto_region 7 with fail
  rw [← hw]
  clear hw f7 y7
  have N17 := number_any (p := 17) (wd := 2) (wI := 2) rfl M.out.k3 (by omega) (by omega) (by omega) l9
  rw [S1.out.vnu] at N17
  replace N17 := Lib.hid N17
  go_wp2_with fail
  with_reducible refine N17.out.mono ?_
  rintro e w9 ⟨rfl, m9, hw⟩
  replace M := Lib.hid (M.out.num m9 19)
  rw [← hw] at M
  clear hw N17
  have f9 := f12 M.out.k4 7
  have y9 : w9.cell? ⟨B + 1 + 1, 7, none⟩ = some (.int .i64 0) := cell_of_row w9 (B + 1 + 1) 7 _ _ _ M.out.k4
  replace M := Lib.hid (M.out.put 7 (.int .i64 (nu : Int)))
  obtain ⟨w10, hw⟩ : ∃ w10, w10 = w9.setCell ⟨B + 1 + 1, 7, none⟩ (.int .i64 (nu : Int)) := ⟨_, rfl⟩
  rw [← hw] at M
  replace M := Lib.hid (show RD w B l w10 19 #[.string ⟨#[]⟩, .string ⟨#[]⟩, .string ⟨#[]⟩, .string ⟨#[]⟩, .int .i64 (ru : Int), .int .i64 (se : Int), .int .i64 (st : Int), .int .i64 (nu : Int), .int .i64 0, .int .i64 (cl : Int), .int .i64 0, .slice none 0 0] from M.out)
  
  go_upto_region 8 with fail
  rw [← hw]
  clear hw f9 y9
  have N19 := number_any (p := 19) (wd := 2) (wI := 2) rfl M.out.k3 (by omega) (by omega) (by omega) l9
  rw [S1.out.vde] at N19
  replace N19 := Lib.hid N19
  go_wp2_with fail
  with_reducible refine N19.out.mono ?_
  rintro e w11 ⟨rfl, m11, hw⟩
  replace M := Lib.hid (M.out.num m11 21)
  rw [← hw] at M
  clear hw N19
  have f11 := f12 M.out.k4 8
  have y11 : w11.cell? ⟨B + 1 + 1, 8, none⟩ = some (.int .i64 0) := cell_of_row w11 (B + 1 + 1) 8 _ _ _ M.out.k4
  replace M := Lib.hid (M.out.put 8 (.int .i64 (de : Int)))
  obtain ⟨w12, hw⟩ : ∃ w12, w12 = w11.setCell ⟨B + 1 + 1, 8, none⟩ (.int .i64 (de : Int)) := ⟨_, rfl⟩
  rw [← hw] at M
  replace M := Lib.hid (show RD w B l w12 21 #[.string ⟨#[]⟩, .string ⟨#[]⟩, .string ⟨#[]⟩, .string ⟨#[]⟩, .int .i64 (ru : Int), .int .i64 (se : Int), .int .i64 (st : Int), .int .i64 (nu : Int), .int .i64 (de : Int), .int .i64 (cl : Int), .int .i64 0, .slice none 0 0] from M.out)
  
  go_upto_region 9 with fail
  rw [← hw]
  clear hw f11 y11
  have N21 := number_any (p := 21) (wd := 6) (wI := 6) rfl M.out.k3 (by omega) (by omega) (by omega) l9
  rw [S1.out.ver] at N21
  replace N21 := Lib.hid N21
  go_wp2_with fail
  with_reducible refine N21.out.mono ?_
  rintro e w13 ⟨rfl, m13, hw⟩
  replace M := Lib.hid (M.out.num m13 27)
  rw [← hw] at M
  clear hw N21
  have f13 := f12 M.out.k4 10
  have y13 : w13.cell? ⟨B + 1 + 1, 10, none⟩ = some (.int .i64 0) := cell_of_row w13 (B + 1 + 1) 10 _ _ _ M.out.k4
  replace M := Lib.hid (M.out.put 10 (.int .i64 (er : Int)))
  obtain ⟨w14, hw⟩ : ∃ w14, w14 = w13.setCell ⟨B + 1 + 1, 10, none⟩ (.int .i64 (er : Int)) := ⟨_, rfl⟩
  rw [← hw] at M
  replace M := Lib.hid (show RD w B l w14 27 #[.string ⟨#[]⟩, .string ⟨#[]⟩, .string ⟨#[]⟩, .string ⟨#[]⟩, .int .i64 (ru : Int), .int .i64 (se : Int), .int .i64 (st : Int), .int .i64 (nu : Int), .int .i64 (de : Int), .int .i64 (cl : Int), .int .i64 (er : Int), .slice none 0 0] from M.out)
  
  go_upto_region 10 with fail
  rw [← hw]
  clear hw f13 y13
  have N27 := number_any (p := 27) (wd := 2) (wI := 2) rfl M.out.k3 (by omega) (by omega) (by omega) l9
  rw [S1.out.vn] at N27
  replace N27 := Lib.hid N27
  go_wp2_with fail
  with_reducible refine N27.out.mono ?_
  rintro e w15 ⟨rfl, m15, hw⟩
  replace M := Lib.hid (M.out.num m15 29)
  rw [← hw] at M
  clear hw N27
  go_upto_region 11 with fail
  have N29 := number_any (p := 29) (wd := 1) (wI := 1) rfl M.out.k3 (by omega) (by omega) (by omega) l9
  rw [S1.out.vtl] at N29
  replace N29 := Lib.hid N29
  go_wp2_with fail
  with_reducible refine N29.out.mono ?_
  rintro e w16 ⟨rfl, m16, hw⟩
  replace M := Lib.hid (M.out.num m16 30)
  rw [← hw] at M
  clear hw N29
  go_upto_region 12 with fail
  have N30 := number_any (p := 30) (wd := 1) (wI := 1) rfl M.out.k3 (by omega) (by omega) (by omega) l9
  rw [S1.out.vfr] at N30
  replace N30 := Lib.hid N30
  go_wp2_with fail
  with_reducible refine N30.out.mono ?_
  rintro e w17 ⟨rfl, m17, hw⟩
  replace M := Lib.hid (M.out.num m17 31)
  rw [← hw] at M
  clear hw N30
  go_upto_region 13 with fail
  have tl9 := S1.out.tl9
  have fr9 := S1.out.fr9
  have NB := bytes_any (p := 31) (n := tl) (nI := (tl : Int)) rfl M.out.k3 (by omega) l9
  rw [S1.out.txt] at NB
  replace NB := Lib.hid NB
  go_wp2_with fail
  with_reducible refine NB.out.mono ?_
  rintro e w30 ⟨rfl, m30, hw⟩
  replace M := Lib.hid (M.out.num m30 (31 + tl))
  rw [← hw] at M
  clear hw NB
  go_wp2_with fail
  refine (Sc.parse_any G1.out.src _ (hm.next M.out.bel)).mono ?_
  rintro e w31 ⟨rfl, hb⟩
  replace M := Lib.hid (M.out.below hb)
  clear hb
  have fz0 := f12 M.out.k4 0
  have fz1 := f12 M.out.k4 1
  have fz2 := f12 M.out.k4 2
  have fz3 := f12 M.out.k4 3
  have z0 : w31.cell? ⟨B + 1 + 1, 0, none⟩ = some (.string ⟨#[]⟩) := cell_of_row w31 (B + 1 + 1) 0 _ _ _ M.out.k4
  have z1 : w31.cell? ⟨B + 1 + 1, 1, none⟩ = some (.string ⟨#[]⟩) := cell_of_row w31 (B + 1 + 1) 1 _ _ _ M.out.k4
  have z2 : w31.cell? ⟨B + 1 + 1, 2, none⟩ = some (.string ⟨#[]⟩) := cell_of_row w31 (B + 1 + 1) 2 _ _ _ M.out.k4
  have z3 : w31.cell? ⟨B + 1 + 1, 3, none⟩ = some (.string ⟨#[]⟩) := cell_of_row w31 (B + 1 + 1) 3 _ _ _ M.out.k4
  replace M := Lib.hid ((((M.out.put 0 (.string ⟨⟨s0⟩⟩)).put 1 (.string ⟨⟨s1⟩⟩)).put 2 (.string ⟨⟨s2⟩⟩)).put 3 (.string ⟨⟨s3⟩⟩))
  go_upto_region 14 with fail
  obtain ⟨w32, hw⟩ : ∃ w32, w32 = ((((w31.setCell ⟨B + 1 + 1, 0, none⟩ (.string ⟨⟨s0⟩⟩)).setCell ⟨B + 1 + 1, 1, none⟩ (.string ⟨⟨s1⟩⟩)).setCell ⟨B + 1 + 1, 2, none⟩ (.string ⟨⟨s2⟩⟩)).setCell ⟨B + 1 + 1, 3, none⟩ (.string ⟨⟨s3⟩⟩)) := ⟨_, rfl⟩
  rw [← hw] at M ⊢
  replace M := Lib.hid (show RD w B l w32 (31 + tl) #[.string ⟨⟨s0⟩⟩, .string ⟨⟨s1⟩⟩, .string ⟨⟨s2⟩⟩, .string ⟨⟨s3⟩⟩, .int .i64 (ru : Int), .int .i64 (se : Int), .int .i64 (st : Int), .int .i64 (nu : Int), .int .i64 (de : Int), .int .i64 (cl : Int), .int .i64 (er : Int), .slice none 0 0] from M.out)
  clear hw fz0 fz1 fz2 fz3 z0 z1 z2 z3
  have NB := bytes_any (p := 31 + tl) (n := 64 * fr) (nI := (fr : Int) * 64) (by omega) M.out.k3 (by omega) l9
  rw [S1.out.frm] at NB
  replace NB := Lib.hid NB
  have DA := Lib.hid fun w' => decode_all L G1.out.inL G1.out.hf G1.out.l1 (by have := G1.out.l9; omega) (L.length : Int) rfl w'
  go_wp2_with fail
  with_reducible refine NB.out.mono ?_
  rintro e w33 ⟨rfl, m33, hw⟩
  replace M := Lib.hid (M.out.num m33 (31 + tl + 64 * fr))
  rw [← hw] at M
  clear hw NB
  go_wp2_with fail
  with_reducible refine (DA.out _).mono ?_
  rintro e w34 ⟨⟨sa, sc, rfl, hR, hge⟩, hb⟩
  have z4 := (Array.getElem?_eq_some_iff.1 M.out.k4).1
  replace hge := Lib.hid (fun g o e => (⟨hge g o e, by have := hge g o e; have := M.out.bel.size; omega⟩ : w33.heap.size ≤ g ∧ w.heap.size ≤ g))
  replace M := Lib.hid (M.out.below hb)
  clear hb DA
  have fz := f12 M.out.k4 11
  have z11 : w34.cell? ⟨B + 1 + 1, 11, none⟩ = some (.slice none 0 0) := cell_of_row w34 (B + 1 + 1) 11 _ _ _ M.out.k4
  replace M := Lib.hid (M.out.put 11 (.slice sa L.length sc))
  obtain ⟨w35, hw⟩ : ∃ w35, w35 = w34.setCell ⟨B + 1 + 1, 11, none⟩ (.slice sa L.length sc) := ⟨_, rfl⟩
  have R35 : Hid (St.Ro w35 sa L.length sc L) := Lib.hid (ro_kept hR (fun g o e => by rw [hw]; exact Below.heap_setCell w34 ⟨B + 1 + 1, 11, none⟩ _ g (by have := (hge.out g o e).1; show g ≠ B + 1 + 1; omega)) (by rw [hw]; simp [World.setCell]))
  go_upto_region 15 with fail
  rw [← hw] at M ⊢
  replace M := Lib.hid (show RD w B l w35 (31 + tl + 64 * fr) #[.string ⟨⟨s0⟩⟩, .string ⟨⟨s1⟩⟩, .string ⟨⟨s2⟩⟩, .string ⟨⟨s3⟩⟩, .int .i64 (ru : Int), .int .i64 (se : Int), .int .i64 (st : Int), .int .i64 (nu : Int), .int .i64 (de : Int), .int .i64 (cl : Int), .int .i64 (er : Int), .slice sa L.length sc] from M.out)
  clear hw fz z11 hR
  go_wp2_with (first | ((with_reducible refine Mid.ldr 34 (.tmp 4) (B + 1 + 1) 34 #[.string ⟨⟨s0⟩⟩, .string ⟨⟨s1⟩⟩, .string ⟨⟨s2⟩⟩, .string ⟨⟨s3⟩⟩, .int .i64 (ru : Int), .int .i64 (se : Int), .int .i64 (st : Int), .int .i64 (nu : Int), .int .i64 (de : Int), .int .i64 (cl : Int), .int .i64 (er : Int), .slice sa L.length sc] M.out.k4 ?_ ?_ ?_ ?_ ?_ ?_); (· rfl); (· rfl); (· first | rfl | simp [Act.eval]); (· exact ⟨_, rfl, rfl⟩); (· kernel_rfl)) | ((with_reducible refine Mid.str 34 (.tmp 2) (.tmp 47) B 34 #[.string ⟨#[]⟩, .string ⟨#[]⟩, .string ⟨#[]⟩, .string ⟨#[]⟩, .int .i64 0, .int .i64 0, .int .i64 0, .int .i64 0, .int .i64 0, .int .i64 0, .int .i64 0, .slice none 0 0] #[.string ⟨⟨s0⟩⟩, .string ⟨⟨s1⟩⟩, .string ⟨⟨s2⟩⟩, .string ⟨⟨s3⟩⟩, .int .i64 (ru : Int), .int .i64 (se : Int), .int .i64 (st : Int), .int .i64 (nu : Int), .int .i64 (de : Int), .int .i64 (cl : Int), .int .i64 (er : Int), .slice sa L.length sc] M.out.k2 ?_ ?_ ?_ ?_ ?_ ?_ ?_ ?_); (· rfl); (· rfl); (· first | rfl | simp [Act.eval]); (· first | rfl | simp [Act.eval]); (· kernel_rfl); (· rfl); (· simp [Value.oneCell'])))
  have KZ := Lib.hid (setRow_heap _ _ _ #[.string ⟨⟨s0⟩⟩, .string ⟨⟨s1⟩⟩, .string ⟨⟨s2⟩⟩, .string ⟨⟨s3⟩⟩, .int .i64 (ru : Int), .int .i64 (se : Int), .int .i64 (st : Int), .int .i64 (nu : Int), .int .i64 (de : Int), .int .i64 (cl : Int), .int .i64 (er : Int), .slice sa L.length sc] _ _ M.out.k2)
  refine bodyPost_ret (results_cell_row rfl _ _ B _ _ _ _ rfl KZ.out rfl (by rfl) rfl) rfl ⟨⟨sa, sc, rfl, ?_, fun g o e => (hge.out g o e).2⟩, ?_⟩
  · exact ro_set _ R35.out (fun g o e => by have := (hge.out g o e).1; omega)
  · exact Mid.below_row M.out.bel _ _ M.out.hB
end Pkt
end Go.Proofs.YtfebacopbacopaaDoor

/- packet.Decode: a packet's bytes, and bytes that are refused. -/
set_option linter.unusedVariables false
set_option linter.unusedSimpArgs false
namespace Go.Proofs.YtfebacopbacopaaDoor
open Go.RowKit Dice
namespace Pkt
theorem says_pk {s0 s1 s2 s3 : List UInt8} {ru se st nu de cl er : Nat} {L : List Int} (G : Good s0 s1 s2 s3 ru se st nu de cl er L) : Says (pk (flds cl ru se st nu de er L.length (Sc.j4 s0 s1 s2 s3).length (St.fo (St.wds (St.df L)).length)) (Sc.j4 s0 s1 s2 s3) (St.enc L)) s0 s1 s2 s3 ru se st nu de cl er L (Sc.j4 s0 s1 s2 s3).length (St.fo (St.wds (St.df L)).length) := by
  have t9 := j4_len G.src
  have f9 := G.hf
  have el := enc_len L
  have FO := flds_ok G (tl := (Sc.j4 s0 s1 s2 s3).length) (fr := St.fo (St.wds (St.df L)).length) (by omega) (by omega)
  have hl := flds_len cl ru se st nu de er L.length (Sc.j4 s0 s1 s2 s3).length (St.fo (St.wds (St.df L)).length)
  generalize hT : Sc.j4 s0 s1 s2 s3 = T at *
  generalize St.fo (St.wds (St.df L)).length = fr at *
  refine ⟨?_, ?_, ?_, ?_, ?_, ?_, ?_, ?_, ?_, ?_, ?_, ?_, ?_, t9.2, f9⟩
  · rw [pk_len, hl, el]
  · rw [pk_hd]; exact field_at [] [(ru, 2), (se, 4), (st, 7), (nu, 2), (de, 2), (er, 6), (L.length, 2), (T.length, 1), (fr, 1)] cl 1 3 _ (FO (cl, 1) (by simp [flds])).2.2 (by rfl)
  · rw [pk_hd]; exact field_at [(cl, 1)] [(se, 4), (st, 7), (nu, 2), (de, 2), (er, 6), (L.length, 2), (T.length, 1), (fr, 1)] ru 2 4 _ (FO (ru, 2) (by simp [flds])).2.2 (by rfl)
  · rw [pk_hd]; exact field_at [(cl, 1), (ru, 2)] [(st, 7), (nu, 2), (de, 2), (er, 6), (L.length, 2), (T.length, 1), (fr, 1)] se 4 6 _ (FO (se, 4) (by simp [flds])).2.2 (by rfl)
  · rw [pk_hd]; exact field_at [(cl, 1), (ru, 2), (se, 4)] [(nu, 2), (de, 2), (er, 6), (L.length, 2), (T.length, 1), (fr, 1)] st 7 10 _ (FO (st, 7) (by simp [flds])).2.2 (by rfl)
  · rw [pk_hd]; exact field_at [(cl, 1), (ru, 2), (se, 4), (st, 7)] [(de, 2), (er, 6), (L.length, 2), (T.length, 1), (fr, 1)] nu 2 17 _ (FO (nu, 2) (by simp [flds])).2.2 (by rfl)
  · rw [pk_hd]; exact field_at [(cl, 1), (ru, 2), (se, 4), (st, 7), (nu, 2)] [(er, 6), (L.length, 2), (T.length, 1), (fr, 1)] de 2 19 _ (FO (de, 2) (by simp [flds])).2.2 (by rfl)
  · rw [pk_hd]; exact field_at [(cl, 1), (ru, 2), (se, 4), (st, 7), (nu, 2), (de, 2)] [(L.length, 2), (T.length, 1), (fr, 1)] er 6 21 _ (FO (er, 6) (by simp [flds])).2.2 (by rfl)
  · rw [pk_hd]; exact field_at [(cl, 1), (ru, 2), (se, 4), (st, 7), (nu, 2), (de, 2), (er, 6)] [(T.length, 1), (fr, 1)] L.length 2 27 _ (FO (L.length, 2) (by simp [flds])).2.2 (by rfl)
  · rw [pk_hd]; exact field_at [(cl, 1), (ru, 2), (se, 4), (st, 7), (nu, 2), (de, 2), (er, 6), (L.length, 2)] [(fr, 1)] T.length 1 29 _ (FO (T.length, 1) (by simp [flds])).2.2 (by rfl)
  · rw [pk_hd]; exact field_at [(cl, 1), (ru, 2), (se, 4), (st, 7), (nu, 2), (de, 2), (er, 6), (L.length, 2), (T.length, 1)] [] fr 1 30 _ (FO (fr, 1) (by simp [flds])).2.2 (by rfl)
  · rw [pk_hd, ← hl, List.drop_left, List.append_assoc, List.take_left' rfl, hT]
  · rw [pk_hd, ← hl, List.drop_length_add_append, List.append_assoc, List.drop_left, List.take_left' el]
/-- What Length asks of the bytes. -/
structure Lng (l : List UInt8) (tl fr : Nat) : Prop where
  h31 : 31 ≤ l.length
  h9 : l.length ≤ 1000000
  hm : l.take 3 = [83, 78, 1]
  ht : (l.getD 29 0).toNat = tl
  hf : (l.getD 30 0).toNat = fr
  t8 : 8 ≤ tl
  t15 : tl ≤ 15
  f1 : 1 ≤ fr
  f8 : fr ≤ 8
theorem gv_one (l : List UInt8) (p : Nat) (h : p < l.length) : Ma.gv ((l.drop p).take 1) = (l.getD p 0).toNat := by
  have : (l.drop p).take 1 = [l[p]] := by
    rw [List.drop_eq_getElem_cons h]; rfl
  rw [this, List.getD_eq_getElem?_getD, List.getElem?_eq_getElem h]
  simp [Ma.gv]
theorem lng_pk {s0 s1 s2 s3 : List UInt8} {ru se st nu de cl er : Nat} {L : List Int} (G : Good s0 s1 s2 s3 ru se st nu de cl er L) : Lng (pk (flds cl ru se st nu de er L.length (Sc.j4 s0 s1 s2 s3).length (St.fo (St.wds (St.df L)).length)) (Sc.j4 s0 s1 s2 s3) (St.enc L)) (Sc.j4 s0 s1 s2 s3).length (St.fo (St.wds (St.df L)).length) := by
  have S := says_pk G
  have t9 := j4_len G.src
  have f9 := G.hf
  have f1 : 1 ≤ St.fo (St.wds (St.df L)).length := by unfold St.fo; omega
  have hl := S.len
  refine ⟨by omega, by omega, ?_, ?_, ?_, t9.1, t9.2, f1, f9⟩
  · rw [pk_hd]; rfl
  · rw [← gv_one _ 29 (by omega)]; exact S.vtl
  · rw [← gv_one _ 30 (by omega)]; exact S.vfr
set_option maxHeartbeats 8000000 in
set_option maxRecDepth 100000 in
theorem decode_short {w : World} {l : List UInt8} (h : l.length < 31) :
    Calls Tryd.prog 12 #[.string ⟨⟨l⟩⟩] w fun e w' => e = .returned (.tuple #[.agg #[.string ⟨#[]⟩, .string ⟨#[]⟩, .string ⟨#[]⟩, .string ⟨#[]⟩, .int .i64 0, .int .i64 0, .int .i64 0, .int .i64 0, .int .i64 0, .int .i64 0, .int .i64 0, .slice none 0 0], .int .i64 4]) ∧ Below w.heap.size w w' := by
  have LS := Lib.hid fun w' => length_short l h w'
  clear h
  obtain ⟨w1, hw1⟩ : ∃ w1, w1 = w.alloc (.cells #[.string ⟨#[]⟩, .string ⟨#[]⟩, .string ⟨#[]⟩, .string ⟨#[]⟩, .int .i64 0, .int .i64 0, .int .i64 0, .int .i64 0, .int .i64 0, .int .i64 0, .int .i64 0, .slice none 0 0] 34) := ⟨_, rfl⟩
  have hb1 : Below w.heap.size w w1 := by rw [hw1]; exact new_block _
  have K1 := Lib.hid (show w1.heap[w.heap.size]? = some (.cells #[.string ⟨#[]⟩, .string ⟨#[]⟩, .string ⟨#[]⟩, .string ⟨#[]⟩, .int .i64 0, .int .i64 0, .int .i64 0, .int .i64 0, .int .i64 0, .int .i64 0, .int .i64 0, .slice none 0 0] 34 (0, 0)) by rw [hw1]; exact heap_alloc_new w _)
  have B1 := Lib.hid hb1
  go_enter Tryd.func12, Tryd.ntmps12
  go_upto_region 1 with fail
  rw [← hw1]
  clear hw1 hb1
  go_wp2_with (first | (go_at_call 13; (with_reducible refine (LS.out _).mono ?_); rintro e w2 ⟨rfl, hb⟩; (replace K1 := Lib.hid (hbk hb K1.out)); (replace B1 := Lib.hid (Buf.then_ B1.out hb))) | ((with_reducible refine Mid.str 34 (.tmp 2) (.tmp 16) w.heap.size 34 #[.string ⟨#[]⟩, .string ⟨#[]⟩, .string ⟨#[]⟩, .string ⟨#[]⟩, .int .i64 0, .int .i64 0, .int .i64 0, .int .i64 0, .int .i64 0, .int .i64 0, .int .i64 0, .slice none 0 0] #[.string ⟨#[]⟩, .string ⟨#[]⟩, .string ⟨#[]⟩, .string ⟨#[]⟩, .int .i64 0, .int .i64 0, .int .i64 0, .int .i64 0, .int .i64 0, .int .i64 0, .int .i64 0, .slice none 0 0] K1.out ?_ ?_ ?_ ?_ ?_ ?_ ?_ ?_); (· rfl); (· rfl); (· first | rfl | simp [Act.eval]); (· first | rfl | simp [Act.eval]); (· kernel_rfl); (· rfl); (· simp [Value.oneCell'])))
  have KZ := Lib.hid (setRow_heap _ _ _ #[.string ⟨#[]⟩, .string ⟨#[]⟩, .string ⟨#[]⟩, .string ⟨#[]⟩, .int .i64 0, .int .i64 0, .int .i64 0, .int .i64 0, .int .i64 0, .int .i64 0, .int .i64 0, .slice none 0 0] _ _ K1.out)
  exact bodyPost_ret (Res.row_tmp rfl _ _ w.heap.size _ _ _ _ rfl KZ.out rfl (by rfl) rfl) rfl ⟨rfl, Mid.below_row B1.out _ _ (Nat.le_refl _)⟩
set_option maxHeartbeats 8000000 in
set_option maxRecDepth 100000 in
theorem decode_trunc {w : World} {l : List UInt8} {tl fr : Nat} (G : Lng l tl fr) (h : l.length < 31 + tl + fr * 64 + 4) :
    Calls Tryd.prog 12 #[.string ⟨⟨l⟩⟩] w fun e w' => e = .returned (.tuple #[.agg #[.string ⟨#[]⟩, .string ⟨#[]⟩, .string ⟨#[]⟩, .string ⟨#[]⟩, .int .i64 0, .int .i64 0, .int .i64 0, .int .i64 0, .int .i64 0, .int .i64 0, .int .i64 0, .slice none 0 0], .int .i64 4]) ∧ Below w.heap.size w w' := by
  have LS := Lib.hid fun w' => length_any l tl fr G.h31 G.h9 G.hm G.ht G.hf G.t8 G.t15 G.f1 G.f8 w'
  have t15 := G.t15
  have f8 := G.f8
  have h9 := G.h9
  clear G
  have h1 : (l.length : Int) < ((31 + tl + fr * 64 + 4 : Nat) : Int) := by omega
  obtain ⟨n, hn⟩ : ∃ n, n = 31 + tl + fr * 64 + 4 := ⟨_, rfl⟩
  rw [← hn] at LS h1 h
  clear hn
  obtain ⟨w1, hw1⟩ : ∃ w1, w1 = w.alloc (.cells #[.string ⟨#[]⟩, .string ⟨#[]⟩, .string ⟨#[]⟩, .string ⟨#[]⟩, .int .i64 0, .int .i64 0, .int .i64 0, .int .i64 0, .int .i64 0, .int .i64 0, .int .i64 0, .slice none 0 0] 34) := ⟨_, rfl⟩
  have hb1 : Below w.heap.size w w1 := by rw [hw1]; exact new_block _
  have K1 := Lib.hid (show w1.heap[w.heap.size]? = some (.cells #[.string ⟨#[]⟩, .string ⟨#[]⟩, .string ⟨#[]⟩, .string ⟨#[]⟩, .int .i64 0, .int .i64 0, .int .i64 0, .int .i64 0, .int .i64 0, .int .i64 0, .int .i64 0, .slice none 0 0] 34 (0, 0)) by rw [hw1]; exact heap_alloc_new w _)
  have B1 := Lib.hid hb1
  go_enter Tryd.func12, Tryd.ntmps12
  go_upto_region 1 with fail
  rw [← hw1]
  clear hw1 hb1
  go_wp2_with (first | (go_at_call 13; (with_reducible refine (LS.out _).mono ?_); rintro e w2 ⟨rfl, hb⟩; (replace K1 := Lib.hid (hbk hb K1.out)); (replace B1 := Lib.hid (Buf.then_ B1.out hb))) | ((with_reducible refine Mid.str 34 (.tmp 2) (.tmp 22) w.heap.size 34 #[.string ⟨#[]⟩, .string ⟨#[]⟩, .string ⟨#[]⟩, .string ⟨#[]⟩, .int .i64 0, .int .i64 0, .int .i64 0, .int .i64 0, .int .i64 0, .int .i64 0, .int .i64 0, .slice none 0 0] #[.string ⟨#[]⟩, .string ⟨#[]⟩, .string ⟨#[]⟩, .string ⟨#[]⟩, .int .i64 0, .int .i64 0, .int .i64 0, .int .i64 0, .int .i64 0, .int .i64 0, .int .i64 0, .slice none 0 0] K1.out ?_ ?_ ?_ ?_ ?_ ?_ ?_ ?_); (· rfl); (· rfl); (· first | rfl | simp [Act.eval]); (· first | rfl | simp [Act.eval]); (· kernel_rfl); (· rfl); (· simp [Value.oneCell'])))
  have KZ := Lib.hid (setRow_heap _ _ _ #[.string ⟨#[]⟩, .string ⟨#[]⟩, .string ⟨#[]⟩, .string ⟨#[]⟩, .int .i64 0, .int .i64 0, .int .i64 0, .int .i64 0, .int .i64 0, .int .i64 0, .int .i64 0, .slice none 0 0] _ _ K1.out)
  exact bodyPost_ret (Res.row_tmp rfl _ _ w.heap.size _ _ _ _ rfl KZ.out rfl (by rfl) rfl) rfl ⟨rfl, Mid.below_row B1.out _ _ (Nat.le_refl _)⟩
set_option maxHeartbeats 8000000 in
set_option maxRecDepth 100000 in
theorem decode_sum {w : World} {l : List UInt8} {tl fr : Nat} (G : Lng l tl fr) (h : l.length = 31 + tl + fr * 64 + 4) (hc : Crc.chk l = false) :
    Calls Tryd.prog 12 #[.string ⟨⟨l⟩⟩] w fun e w' => e = .returned (.tuple #[.agg #[.string ⟨#[]⟩, .string ⟨#[]⟩, .string ⟨#[]⟩, .string ⟨#[]⟩, .int .i64 0, .int .i64 0, .int .i64 0, .int .i64 0, .int .i64 0, .int .i64 0, .int .i64 0, .slice none 0 0], .int .i64 5]) ∧ Below w.heap.size w w' := by
  have LS := Lib.hid fun w' => length_any l tl fr G.h31 G.h9 G.hm G.ht G.hf G.t8 G.t15 G.f1 G.f8 w'
  have t15 := G.t15
  have f8 := G.f8
  have h9 := G.h9
  clear G
  have CK := Lib.hid fun w' => Crc.check_any ⟨⟨l⟩⟩ w' (show l.length ≤ 1000000 from h9)
  rw [show (ByteArray.mk ⟨l⟩).data.toList = l from rfl, hc] at CK
  obtain ⟨n, hn⟩ : ∃ n, n = 31 + tl + fr * 64 + 4 := ⟨_, rfl⟩
  rw [← hn] at LS h
  have h1 : ¬ ((l.length : Int) < (n : Int)) := by omega
  have h2 : ¬ ((n : Int) < (l.length : Int)) := by omega
  clear hn hc h
  obtain ⟨w1, hw1⟩ : ∃ w1, w1 = w.alloc (.cells #[.string ⟨#[]⟩, .string ⟨#[]⟩, .string ⟨#[]⟩, .string ⟨#[]⟩, .int .i64 0, .int .i64 0, .int .i64 0, .int .i64 0, .int .i64 0, .int .i64 0, .int .i64 0, .slice none 0 0] 34) := ⟨_, rfl⟩
  have hb1 : Below w.heap.size w w1 := by rw [hw1]; exact new_block _
  have K1 := Lib.hid (show w1.heap[w.heap.size]? = some (.cells #[.string ⟨#[]⟩, .string ⟨#[]⟩, .string ⟨#[]⟩, .string ⟨#[]⟩, .int .i64 0, .int .i64 0, .int .i64 0, .int .i64 0, .int .i64 0, .int .i64 0, .int .i64 0, .slice none 0 0] 34 (0, 0)) by rw [hw1]; exact heap_alloc_new w _)
  have B1 := Lib.hid hb1
  go_enter Tryd.func12, Tryd.ntmps12
  go_upto_region 1 with fail
  rw [← hw1]
  clear hw1 hb1
  go_wp2_with (first | (go_at_call 13; (with_reducible refine (LS.out _).mono ?_); rintro e w2 ⟨rfl, hb⟩; (replace K1 := Lib.hid (hbk hb K1.out)); (replace B1 := Lib.hid (Buf.then_ B1.out hb))) | (go_at_call 30; (with_reducible refine (CK.out _).mono ?_); rintro e w3 ⟨rfl, hb3⟩; (replace K1 := Lib.hid (hbk hb3 K1.out)); (replace B1 := Lib.hid (Buf.then_ B1.out hb3))) | ((with_reducible refine Mid.str 34 (.tmp 2) (.tmp 31) w.heap.size 34 #[.string ⟨#[]⟩, .string ⟨#[]⟩, .string ⟨#[]⟩, .string ⟨#[]⟩, .int .i64 0, .int .i64 0, .int .i64 0, .int .i64 0, .int .i64 0, .int .i64 0, .int .i64 0, .slice none 0 0] #[.string ⟨#[]⟩, .string ⟨#[]⟩, .string ⟨#[]⟩, .string ⟨#[]⟩, .int .i64 0, .int .i64 0, .int .i64 0, .int .i64 0, .int .i64 0, .int .i64 0, .int .i64 0, .slice none 0 0] K1.out ?_ ?_ ?_ ?_ ?_ ?_ ?_ ?_); (· rfl); (· rfl); (· first | rfl | simp [Act.eval]); (· first | rfl | simp [Act.eval]); (· kernel_rfl); (· rfl); (· simp [Value.oneCell'])))
  have KZ := Lib.hid (setRow_heap _ _ _ #[.string ⟨#[]⟩, .string ⟨#[]⟩, .string ⟨#[]⟩, .string ⟨#[]⟩, .int .i64 0, .int .i64 0, .int .i64 0, .int .i64 0, .int .i64 0, .int .i64 0, .int .i64 0, .slice none 0 0] _ _ K1.out)
  exact bodyPost_ret (Res.row_tmp rfl _ _ w.heap.size _ _ _ _ rfl KZ.out rfl (by rfl) rfl) rfl ⟨rfl, Mid.below_row B1.out _ _ (Nat.le_refl _)⟩
set_option maxHeartbeats 8000000 in
set_option maxRecDepth 100000 in
theorem decode_ok {w : World} {s0 s1 s2 s3 : List UInt8} {ru se st nu de cl er : Nat} {L : List Int} (G : Good s0 s1 s2 s3 ru se st nu de cl er L) (hm : Sc.Mx w) :
    Calls Tryd.prog 12 #[.string ⟨⟨(pk (flds cl ru se st nu de er L.length (Sc.j4 s0 s1 s2 s3).length (St.fo (St.wds (St.df L)).length)) (Sc.j4 s0 s1 s2 s3) (St.enc L))⟩⟩] w fun e w' => (∃ a c, e = .returned (.tuple #[.agg #[.string ⟨⟨s0⟩⟩, .string ⟨⟨s1⟩⟩, .string ⟨⟨s2⟩⟩, .string ⟨⟨s3⟩⟩, .int .i64 (ru : Int), .int .i64 (se : Int), .int .i64 (st : Int), .int .i64 (nu : Int), .int .i64 (de : Int), .int .i64 (cl : Int), .int .i64 (er : Int), .slice a L.length c], .int .i64 0]) ∧ St.Ro w' a L.length c L) ∧ Below w.heap.size w w' := by
  have SY := says_pk G
  have LG := lng_pk G
  have l9 := LG.h9
  have CK := Lib.hid fun w' => Crc.check_any ⟨⟨(pk (flds cl ru se st nu de er L.length (Sc.j4 s0 s1 s2 s3).length (St.fo (St.wds (St.df L)).length)) (Sc.j4 s0 s1 s2 s3) (St.enc L))⟩⟩ w' (show ((pk (flds cl ru se st nu de er L.length (Sc.j4 s0 s1 s2 s3).length (St.fo (St.wds (St.df L)).length)) (Sc.j4 s0 s1 s2 s3) (St.enc L))).length ≤ 1000000 from l9)
  rw [show (ByteArray.mk ⟨(pk (flds cl ru se st nu de er L.length (Sc.j4 s0 s1 s2 s3).length (St.fo (St.wds (St.df L)).length)) (Sc.j4 s0 s1 s2 s3) (St.enc L))⟩).data.toList = (pk (flds cl ru se st nu de er L.length (Sc.j4 s0 s1 s2 s3).length (St.fo (St.wds (St.df L)).length)) (Sc.j4 s0 s1 s2 s3) (St.enc L)) from rfl, pk_chk] at CK
  have LS := Lib.hid fun w' => length_any _ _ _ LG.h31 LG.h9 LG.hm LG.ht LG.hf LG.t8 LG.t15 LG.f1 LG.f8 w'
  have hlen := SY.len
  have RD := Lib.hid fun w' (h : Sc.Mx w') => read_any (w := w') G SY h
  have EN := Lib.hid fun w' a c (h : St.Ro w' a L.length c L) => encode_any (w := w') G h
  generalize (pk (flds cl ru se st nu de er L.length (Sc.j4 s0 s1 s2 s3).length (St.fo (St.wds (St.df L)).length)) (Sc.j4 s0 s1 s2 s3) (St.enc L)) = l at *
  obtain ⟨n, hn⟩ : ∃ n, n = 31 + (Sc.j4 s0 s1 s2 s3).length + St.fo (St.wds (St.df L)).length * 64 + 4 := ⟨_, rfl⟩
  rw [← hn] at LS
  have h1 : ¬ ((l.length : Int) < (n : Int)) := by omega
  have h2 : ¬ ((n : Int) < (l.length : Int)) := by omega
  clear hn hlen SY LG G
  obtain ⟨w1, hw1⟩ : ∃ w1, w1 = w.alloc (.cells #[.string ⟨#[]⟩, .string ⟨#[]⟩, .string ⟨#[]⟩, .string ⟨#[]⟩, .int .i64 0, .int .i64 0, .int .i64 0, .int .i64 0, .int .i64 0, .int .i64 0, .int .i64 0, .slice none 0 0] 34) := ⟨_, rfl⟩
  have hb1 : Below w.heap.size w w1 := by rw [hw1]; exact new_block _
  have K1 := Lib.hid (show w1.heap[w.heap.size]? = some (.cells #[.string ⟨#[]⟩, .string ⟨#[]⟩, .string ⟨#[]⟩, .string ⟨#[]⟩, .int .i64 0, .int .i64 0, .int .i64 0, .int .i64 0, .int .i64 0, .int .i64 0, .int .i64 0, .slice none 0 0] 34 (0, 0)) by rw [hw1]; exact heap_alloc_new w _)
  have B1 := Lib.hid hb1
  go_enter Tryd.func12, Tryd.ntmps12
  go_upto_region 1 with fail
  rw [← hw1]
  clear hw1 hb1
  go_wp2_with (first | (go_at_call 13; (with_reducible refine (LS.out _).mono ?_); rintro e w2 ⟨rfl, hb⟩; (replace K1 := Lib.hid (hbk hb K1.out)); (replace B1 := Lib.hid (Buf.then_ B1.out hb))) | (go_at_call 30; (with_reducible refine (CK.out _).mono ?_); rintro e w3 ⟨rfl, hb3⟩; (replace K1 := Lib.hid (hbk hb3 K1.out)); (replace B1 := Lib.hid (Buf.then_ B1.out hb3))))
  refine (RD.out _ (hm.next B1.out)).mono ?_
  rintro e w4 ⟨⟨sa, sc, rfl, hR, hge0⟩, hb4⟩
  have hge := Lib.hid (fun g o e => (by have := hge0 g o e; have := (Array.getElem?_eq_some_iff.1 K1.out).1; omega : g ≠ w.heap.size))
  replace K1 := Lib.hid (hbk hb4 K1.out)
  replace B1 := Lib.hid (Buf.then_ B1.out hb4)
  obtain ⟨w5, hw5⟩ : ∃ w5, w5 = w4.alloc (.cells #[.string ⟨⟨s0⟩⟩, .string ⟨⟨s1⟩⟩, .string ⟨⟨s2⟩⟩, .string ⟨⟨s3⟩⟩, .int .i64 (ru : Int), .int .i64 (se : Int), .int .i64 (st : Int), .int .i64 (nu : Int), .int .i64 (de : Int), .int .i64 (cl : Int), .int .i64 (er : Int), .slice sa L.length sc] 34) := ⟨_, rfl⟩
  obtain ⟨p6, hp6⟩ : ∃ p, p = w4.heap.size := ⟨_, rfl⟩
  have hb5 : Below w4.heap.size w4 w5 := by rw [hw5]; exact new_block _
  have K6 := Lib.hid (show w5.heap[p6]? = some (.cells #[.string ⟨⟨s0⟩⟩, .string ⟨⟨s1⟩⟩, .string ⟨⟨s2⟩⟩, .string ⟨⟨s3⟩⟩, .int .i64 (ru : Int), .int .i64 (se : Int), .int .i64 (st : Int), .int .i64 (nu : Int), .int .i64 (de : Int), .int .i64 (cl : Int), .int .i64 (er : Int), .slice sa L.length sc] 34 (0, 0)) by rw [hw5, hp6]; exact heap_alloc_new w4 _)
  replace K1 := Lib.hid (hbk hb5 K1.out)
  replace B1 := Lib.hid (Buf.then_ B1.out hb5)
  have R5 := Lib.hid (hR.below hb5)
  clear hge0
  go_upto_region 11 with fail
  rw [← hw5, ← hp6]
  clear hw5 hp6 hb5 hb4 hR
  have EE := Lib.hid (EN.out w5 sa sc R5.out)
  go_wp2_with ((with_reducible refine Mid.ldr 34 (.tmp 6) p6 34 #[.string ⟨⟨s0⟩⟩, .string ⟨⟨s1⟩⟩, .string ⟨⟨s2⟩⟩, .string ⟨⟨s3⟩⟩, .int .i64 (ru : Int), .int .i64 (se : Int), .int .i64 (st : Int), .int .i64 (nu : Int), .int .i64 (de : Int), .int .i64 (cl : Int), .int .i64 (er : Int), .slice sa L.length sc] K6.out ?_ ?_ ?_ ?_ ?_ ?_); (· rfl); (· rfl); (· first | rfl | simp [Act.eval]); (· exact ⟨_, rfl, rfl⟩); (· kernel_rfl))
  refine EE.out.mono ?_
  rintro e w6 ⟨rfl, hb⟩
  replace K1 := Lib.hid (hbk hb K1.out)
  replace K6 := Lib.hid (hbk hb K6.out)
  replace B1 := Lib.hid (Buf.then_ B1.out hb)
  replace R5 := Lib.hid (R5.out.below hb)
  clear hb EE
  go_wp2_with (first | ((with_reducible refine Mid.ldr 34 (.tmp 6) p6 34 #[.string ⟨⟨s0⟩⟩, .string ⟨⟨s1⟩⟩, .string ⟨⟨s2⟩⟩, .string ⟨⟨s3⟩⟩, .int .i64 (ru : Int), .int .i64 (se : Int), .int .i64 (st : Int), .int .i64 (nu : Int), .int .i64 (de : Int), .int .i64 (cl : Int), .int .i64 (er : Int), .slice sa L.length sc] K6.out ?_ ?_ ?_ ?_ ?_ ?_); (· rfl); (· rfl); (· first | rfl | simp [Act.eval]); (· exact ⟨_, rfl, rfl⟩); (· kernel_rfl)) | ((with_reducible refine Mid.str 34 (.tmp 2) (.tmp 47) w.heap.size 34 #[.string ⟨#[]⟩, .string ⟨#[]⟩, .string ⟨#[]⟩, .string ⟨#[]⟩, .int .i64 0, .int .i64 0, .int .i64 0, .int .i64 0, .int .i64 0, .int .i64 0, .int .i64 0, .slice none 0 0] #[.string ⟨⟨s0⟩⟩, .string ⟨⟨s1⟩⟩, .string ⟨⟨s2⟩⟩, .string ⟨⟨s3⟩⟩, .int .i64 (ru : Int), .int .i64 (se : Int), .int .i64 (st : Int), .int .i64 (nu : Int), .int .i64 (de : Int), .int .i64 (cl : Int), .int .i64 (er : Int), .slice sa L.length sc] K1.out ?_ ?_ ?_ ?_ ?_ ?_ ?_ ?_); (· rfl); (· rfl); (· first | rfl | simp [Act.eval]); (· first | rfl | simp [Act.eval]); (· kernel_rfl); (· rfl); (· simp [Value.oneCell'])))
  have KZ := Lib.hid (setRow_heap _ _ _ #[.string ⟨⟨s0⟩⟩, .string ⟨⟨s1⟩⟩, .string ⟨⟨s2⟩⟩, .string ⟨⟨s3⟩⟩, .int .i64 (ru : Int), .int .i64 (se : Int), .int .i64 (st : Int), .int .i64 (nu : Int), .int .i64 (de : Int), .int .i64 (cl : Int), .int .i64 (er : Int), .slice sa L.length sc] _ _ K1.out)
  refine bodyPost_ret (Res.row_tmp rfl _ _ w.heap.size _ _ _ _ rfl KZ.out rfl (by rfl) rfl) rfl ⟨⟨sa, sc, rfl, ?_⟩, Mid.below_row B1.out _ _ (Nat.le_refl _)⟩
  exact ro_set _ R5.out (fun g o e => hge.out g o e)
end Pkt
end Go.Proofs.YtfebacopbacopaaDoor

/- The reference's Same of two packets; the law's example. -/
set_option linter.unusedVariables false
set_option linter.unusedSimpArgs false
namespace Go.Proofs.YtfebacopbacopaaDoor
open Go.RowKit Dice
namespace Pkt
set_option maxHeartbeats 8000000 in
set_option maxRecDepth 100000 in
theorem same_any {w : World} {s0 s1 s2 s3 : List UInt8} {ru se st nu de cl er : Nat} {L : List Int} {a b : Option Addr} {c d : Nat} (hA : St.Ro w a L.length c L) (hB : St.Ro w b L.length d L) :
    Calls Tryd.prog 14 #[.agg #[.string ⟨⟨s0⟩⟩, .string ⟨⟨s1⟩⟩, .string ⟨⟨s2⟩⟩, .string ⟨⟨s3⟩⟩, .int .i64 (ru : Int), .int .i64 (se : Int), .int .i64 (st : Int), .int .i64 (nu : Int), .int .i64 (de : Int), .int .i64 (cl : Int), .int .i64 (er : Int), .slice a L.length c], .agg #[.string ⟨⟨s0⟩⟩, .string ⟨⟨s1⟩⟩, .string ⟨⟨s2⟩⟩, .string ⟨⟨s3⟩⟩, .int .i64 (ru : Int), .int .i64 (se : Int), .int .i64 (st : Int), .int .i64 (nu : Int), .int .i64 (de : Int), .int .i64 (cl : Int), .int .i64 (er : Int), .slice b L.length d]] w fun e w' => e = .returned (.bool true) ∧ Below w.heap.size w w' := by
  obtain ⟨w1, hw1⟩ : ∃ w1, w1 = (w.alloc (.cells #[.string ⟨⟨s0⟩⟩, .string ⟨⟨s1⟩⟩, .string ⟨⟨s2⟩⟩, .string ⟨⟨s3⟩⟩, .int .i64 (ru : Int), .int .i64 (se : Int), .int .i64 (st : Int), .int .i64 (nu : Int), .int .i64 (de : Int), .int .i64 (cl : Int), .int .i64 (er : Int), .slice a L.length c] 34)).alloc (.cells #[.string ⟨⟨s0⟩⟩, .string ⟨⟨s1⟩⟩, .string ⟨⟨s2⟩⟩, .string ⟨⟨s3⟩⟩, .int .i64 (ru : Int), .int .i64 (se : Int), .int .i64 (st : Int), .int .i64 (nu : Int), .int .i64 (de : Int), .int .i64 (cl : Int), .int .i64 (er : Int), .slice b L.length d] 34) := ⟨_, rfl⟩
  obtain ⟨p2, hp2⟩ : ∃ p, p = w.heap.size := ⟨_, rfl⟩
  have s1' : (w.alloc (.cells #[.string ⟨⟨s0⟩⟩, .string ⟨⟨s1⟩⟩, .string ⟨⟨s2⟩⟩, .string ⟨⟨s3⟩⟩, .int .i64 (ru : Int), .int .i64 (se : Int), .int .i64 (st : Int), .int .i64 (nu : Int), .int .i64 (de : Int), .int .i64 (cl : Int), .int .i64 (er : Int), .slice a L.length c] 34)).heap.size = w.heap.size + 1 := by simp
  have hb1 : Below w.heap.size w w1 := by rw [hw1]; exact Buf.then_ (new_block _) (new_block _)
  have KA := Lib.hid (show w1.heap[p2]? = some (.cells #[.string ⟨⟨s0⟩⟩, .string ⟨⟨s1⟩⟩, .string ⟨⟨s2⟩⟩, .string ⟨⟨s3⟩⟩, .int .i64 (ru : Int), .int .i64 (se : Int), .int .i64 (st : Int), .int .i64 (nu : Int), .int .i64 (de : Int), .int .i64 (cl : Int), .int .i64 (er : Int), .slice a L.length c] 34 (0, 0)) by rw [hw1, hp2]; exact (heap_alloc_old _ _ (by rw [s1']; omega)).trans (heap_alloc_new w _))
  have KB := Lib.hid (show w1.heap[p2 + 1]? = some (.cells #[.string ⟨⟨s0⟩⟩, .string ⟨⟨s1⟩⟩, .string ⟨⟨s2⟩⟩, .string ⟨⟨s3⟩⟩, .int .i64 (ru : Int), .int .i64 (se : Int), .int .i64 (st : Int), .int .i64 (nu : Int), .int .i64 (de : Int), .int .i64 (cl : Int), .int .i64 (er : Int), .slice b L.length d] 34 (0, 0)) by rw [hw1, hp2, ← s1']; exact heap_alloc_new _ _)
  have SM := Lib.hid (St.same_any (hA.below hb1) (hB.below hb1))
  have B1 := Lib.hid hb1
  obtain ⟨x0, x1, x2, x3, x4, x5, x6, x7, x8, x9, x10, x11⟩ := c12 KA.out
  obtain ⟨y0, y1, y2, y3, y4, y5, y6, y7, y8, y9, y10, y11⟩ := c12 KB.out
  clear hA hB s1'
  go_enter Tryd.func14, Tryd.ntmps14
  go_upto_region 1 with fail
  rw [← hw1, ← hp2]
  clear hw1 hp2 hb1
  go_wp2_with (go_at_call 33; (with_reducible refine SM.out.mono ?_); rintro e w2 ⟨rfl, hb⟩)
  go_ret
  exact ⟨rfl, Buf.then_ B1.out hb⟩
theorem good_ex : Good [71, 82] [70, 85, 82] [] [72, 72, 90] 0 0 0 100 1 0 0 [7] := by
  refine ⟨src4_of ⟨by simp [Rec.strs0], by simp [Rec.strs1], by simp [Rec.strs2], by simp [Rec.strs3]⟩, by decide, by decide, by decide, ⟨by decide, by decide, by decide, by decide, by decide⟩, by decide, by decide, ?_, by decide, by decide, fo_le _ (by decide)⟩
  intro x hx
  obtain rfl : x = 7 := by simpa using hx
  omega
theorem ex_tl : (Sc.j4 [71, 82] [70, 85, 82] [] [72, 72, 90]).length = 11 := rfl
theorem ex_fr : St.fo (St.wds (St.df [7])).length = 1 := by decide +kernel
theorem ex_len : (pk (flds 0 0 0 0 100 1 0 ([7] : List Int).length (Sc.j4 [71, 82] [70, 85, 82] [] [72, 72, 90]).length (St.fo (St.wds (St.df [7])).length)) (Sc.j4 [71, 82] [70, 85, 82] [] [72, 72, 90]) (St.enc [7])).length = 110 := by
  rw [(says_pk good_ex).len, ex_tl, ex_fr]
set_option maxHeartbeats 8000000 in
set_option maxRecDepth 100000 in
theorem sane_any {w : World} (hm : Sc.Mx w) : Calls Tryd.prog 8 #[] w fun e w' => e = .returned (.bool true) ∧ Below w.heap.size w w' := by
  obtain ⟨w1, hw1⟩ : ∃ w1, w1 = (w.alloc (.cells #[.int .i64 7] 3)).alloc (.cells #[.string ⟨#[71, 82]⟩, .string ⟨#[70, 85, 82]⟩, .string ⟨#[]⟩, .string ⟨#[72, 72, 90]⟩, .int .i64 0, .int .i64 0, .int .i64 0, .int .i64 100, .int .i64 1, .int .i64 0, .int .i64 0, .slice (some ⟨w.heap.size, 0, none⟩) 1 1] 34) := ⟨_, rfl⟩
  obtain ⟨p1, hp1⟩ : ∃ p, p = w.heap.size + 1 := ⟨_, rfl⟩
  obtain ⟨p0, hp0⟩ : ∃ p, p = w.heap.size := ⟨_, rfl⟩
  have s1' : (w.alloc (.cells #[.int .i64 7] 3)).heap.size = w.heap.size + 1 := by simp
  have hb1 : Below w.heap.size w w1 := by rw [hw1]; exact Buf.then_ (new_block _) (new_block _)
  have K1 := Lib.hid (show w1.heap[p1]? = some (.cells #[.string ⟨#[71, 82]⟩, .string ⟨#[70, 85, 82]⟩, .string ⟨#[]⟩, .string ⟨#[72, 72, 90]⟩, .int .i64 0, .int .i64 0, .int .i64 0, .int .i64 100, .int .i64 1, .int .i64 0, .int .i64 0, .slice (some ⟨p0, 0, none⟩) 1 1] 34 (0, 0)) by rw [hw1, hp1, hp0, ← s1']; exact heap_alloc_new _ _)
  have K0 : w1.heap[p0]? = some (.cells #[.int .i64 7] 3 (0, 0)) := by rw [hw1, hp0]; exact (heap_alloc_old _ _ (by rw [s1']; omega)).trans (heap_alloc_new w _)
  have R1 : St.Ro w1 (some ⟨p0, 0, none⟩) 1 1 [7] := ⟨rfl, Nat.le_refl _, by omega, fun _ => ⟨p0, 0, rfl, (Array.getElem?_eq_some_iff.1 K0).1, fun j x hj => by
    cases j with
    | zero => simp at hj; subst hj; exact cell_of_row w1 p0 0 _ _ _ K0
    | succ j => simp at hj⟩⟩
  have B1 := Lib.hid hb1
  have LG := lng_pk good_ex
  have EN0 := encode_any good_ex R1
  have LS0 := fun w' => length_any _ _ _ LG.h31 LG.h9 LG.hm LG.ht LG.hf LG.t8 LG.t15 LG.f1 LG.f8 w'
  have DE0 := fun w' (h : Sc.Mx w') => decode_ok (w := w') good_ex h
  have hl := ex_len
  generalize (pk (flds 0 0 0 0 100 1 0 ([7] : List Int).length (Sc.j4 [71, 82] [70, 85, 82] [] [72, 72, 90]).length (St.fo (St.wds (St.df [7])).length)) (Sc.j4 [71, 82] [70, 85, 82] [] [72, 72, 90]) (St.enc [7])) = l at *
  rw [ex_tl, ex_fr] at LS0
  have EN : Hid (Calls Tryd.prog 11 #[.agg #[.string ⟨#[71, 82]⟩, .string ⟨#[70, 85, 82]⟩, .string ⟨#[]⟩, .string ⟨#[72, 72, 90]⟩, .int .i64 0, .int .i64 0, .int .i64 0, .int .i64 100, .int .i64 1, .int .i64 0, .int .i64 0, .slice (some ⟨p0, 0, none⟩) 1 1]] w1 fun e w' => e = .returned (.tuple #[.string ⟨⟨l⟩⟩, .int .i64 0]) ∧ Below w1.heap.size w1 w') := Lib.hid EN0
  have LS : Hid (∀ w', Calls Tryd.prog 13 #[.string ⟨⟨l⟩⟩] w' fun e w'' => e = .returned (.tuple #[.int .i64 110, .int .i64 0]) ∧ Below w'.heap.size w' w'') := Lib.hid LS0
  have DE : Hid (∀ w' (h : Sc.Mx w'), Calls Tryd.prog 12 #[.string ⟨⟨l⟩⟩] w' fun e w'' => (∃ a c, e = .returned (.tuple #[.agg #[.string ⟨#[71, 82]⟩, .string ⟨#[70, 85, 82]⟩, .string ⟨#[]⟩, .string ⟨#[72, 72, 90]⟩, .int .i64 0, .int .i64 0, .int .i64 0, .int .i64 100, .int .i64 1, .int .i64 0, .int .i64 0, .slice a 1 c], .int .i64 0]) ∧ St.Ro w'' a 1 c [7]) ∧ Below w'.heap.size w' w'') := Lib.hid DE0
  have SM0 := fun w' b d (h : St.Ro w' (some ⟨p0, 0, none⟩) ([7] : List Int).length 1 [7]) (h' : St.Ro w' b ([7] : List Int).length d [7]) => same_any (w := w') (s0 := [71, 82]) (s1 := [70, 85, 82]) (s2 := []) (s3 := [72, 72, 90]) (ru := 0) (se := 0) (st := 0) (nu := 100) (de := 1) (cl := 0) (er := 0) (L := [7]) h h'
  have SM : Hid (∀ w' b d (h : St.Ro w' (some ⟨p0, 0, none⟩) 1 1 [7]) (h' : St.Ro w' b 1 d [7]), Calls Tryd.prog 14 #[.agg #[.string ⟨#[71, 82]⟩, .string ⟨#[70, 85, 82]⟩, .string ⟨#[]⟩, .string ⟨#[72, 72, 90]⟩, .int .i64 0, .int .i64 0, .int .i64 0, .int .i64 100, .int .i64 1, .int .i64 0, .int .i64 0, .slice (some ⟨p0, 0, none⟩) 1 1], .agg #[.string ⟨#[71, 82]⟩, .string ⟨#[70, 85, 82]⟩, .string ⟨#[]⟩, .string ⟨#[72, 72, 90]⟩, .int .i64 0, .int .i64 0, .int .i64 0, .int .i64 100, .int .i64 1, .int .i64 0, .int .i64 0, .slice b 1 d]] w' fun e w'' => e = .returned (.bool true) ∧ Below w'.heap.size w' w'') := Lib.hid SM0
  have VY0 := fun w' (h : St.Ro w' (some ⟨p0, 0, none⟩) ([7] : List Int).length 1 [7]) => valid_yes (w := w') good_ex h
  have VY : Hid (∀ w' (h : St.Ro w' (some ⟨p0, 0, none⟩) 1 1 [7]), Calls Tryd.prog 23 #[.agg #[.string ⟨#[71, 82]⟩, .string ⟨#[70, 85, 82]⟩, .string ⟨#[]⟩, .string ⟨#[72, 72, 90]⟩, .int .i64 0, .int .i64 0, .int .i64 0, .int .i64 100, .int .i64 1, .int .i64 0, .int .i64 0, .slice (some ⟨p0, 0, none⟩) 1 1]] w' fun e w'' => e = .returned (.bool true) ∧ Below w'.heap.size w' w'') := Lib.hid VY0
  clear EN0 LS0 DE0 VY0 SM0
  replace R1 := Lib.hid R1
  clear K0 LG s1'
  go_enter Tryd.func8, Tryd.ntmps8
  go_upto_region 2 with fail
  rw [← hw1, ← hp1, ← hp0]
  clear hw1 hp1 hp0 hb1
  go_wp2_with ((with_reducible refine Mid.ldr 34 (.tmp 1) p1 34 #[.string ⟨#[71, 82]⟩, .string ⟨#[70, 85, 82]⟩, .string ⟨#[]⟩, .string ⟨#[72, 72, 90]⟩, .int .i64 0, .int .i64 0, .int .i64 0, .int .i64 100, .int .i64 1, .int .i64 0, .int .i64 0, .slice (some ⟨p0, 0, none⟩) 1 1] K1.out ?_ ?_ ?_ ?_ ?_ ?_); (· rfl); (· rfl); (· first | rfl | simp [Act.eval]); (· exact ⟨_, rfl, rfl⟩); (· kernel_rfl))
  with_reducible refine EN.out.mono ?_
  rintro e w2 ⟨rfl, hb⟩
  replace K1 := Lib.hid (hbk hb K1.out)
  replace B1 := Lib.hid (Buf.then_ B1.out hb)
  replace R1 := Lib.hid (R1.out.below hb)
  clear hb EN
  go_wp2_with fail
  with_reducible refine (LS.out _).mono ?_
  rintro e w3 ⟨rfl, hb⟩
  replace K1 := Lib.hid (hbk hb K1.out)
  replace B1 := Lib.hid (Buf.then_ B1.out hb)
  replace R1 := Lib.hid (R1.out.below hb)
  clear hb LS
  go_wp2_with fail
  with_reducible refine (DE.out _ (hm.next B1.out)).mono ?_
  rintro e w4 ⟨⟨sa, sc, rfl, hR⟩, hb⟩
  replace K1 := Lib.hid (hbk hb K1.out)
  replace B1 := Lib.hid (Buf.then_ B1.out hb)
  replace R1 := Lib.hid (R1.out.below hb)
  clear hb DE
  obtain ⟨w5, hw5⟩ : ∃ w5, w5 = w4.alloc (.cells #[.string ⟨#[71, 82]⟩, .string ⟨#[70, 85, 82]⟩, .string ⟨#[]⟩, .string ⟨#[72, 72, 90]⟩, .int .i64 0, .int .i64 0, .int .i64 0, .int .i64 100, .int .i64 1, .int .i64 0, .int .i64 0, .slice sa 1 sc] 34) := ⟨_, rfl⟩
  obtain ⟨p6, hp6⟩ : ∃ p, p = w4.heap.size := ⟨_, rfl⟩
  have hb5 : Below w4.heap.size w4 w5 := by rw [hw5]; exact new_block _
  have K6 := Lib.hid (show w5.heap[p6]? = some (.cells #[.string ⟨#[71, 82]⟩, .string ⟨#[70, 85, 82]⟩, .string ⟨#[]⟩, .string ⟨#[72, 72, 90]⟩, .int .i64 0, .int .i64 0, .int .i64 0, .int .i64 100, .int .i64 1, .int .i64 0, .int .i64 0, .slice sa 1 sc] 34 (0, 0)) by rw [hw5, hp6]; exact heap_alloc_new w4 _)
  replace K1 := Lib.hid (hbk hb5 K1.out)
  replace B1 := Lib.hid (Buf.then_ B1.out hb5)
  replace R1 := Lib.hid (R1.out.below hb5)
  replace hR := Lib.hid (hR.below hb5)
  have hl' : (l.length : Int) = 110 := by omega
  go_upto_region 5 with fail
  rw [← hw5, ← hp6]
  clear hw5 hp6 hb5
  go_wp2_with (first | ((with_reducible refine Mid.ldrg 34 (.tmp 1) p1 34 #[.string ⟨#[71, 82]⟩, .string ⟨#[70, 85, 82]⟩, .string ⟨#[]⟩, .string ⟨#[72, 72, 90]⟩, .int .i64 0, .int .i64 0, .int .i64 0, .int .i64 100, .int .i64 1, .int .i64 0, .int .i64 0, .slice (some ⟨p0, 0, none⟩) 1 1] K1.out ?_ ?_ ?_ ?_ ?_ ?_); (· rfl); (· first | rfl | simp [Region.wanted, yielded]); (· first | rfl | simp [Act.eval]); (· exact ⟨_, rfl, rfl⟩); (· kernel_rfl)) | ((with_reducible refine Mid.ldrg 34 (.tmp 6) p6 34 #[.string ⟨#[71, 82]⟩, .string ⟨#[70, 85, 82]⟩, .string ⟨#[]⟩, .string ⟨#[72, 72, 90]⟩, .int .i64 0, .int .i64 0, .int .i64 0, .int .i64 100, .int .i64 1, .int .i64 0, .int .i64 0, .slice sa 1 sc] K6.out ?_ ?_ ?_ ?_ ?_ ?_); (· rfl); (· first | rfl | simp [Region.wanted, yielded]); (· first | rfl | simp [Act.eval]); (· exact ⟨_, rfl, rfl⟩); (· kernel_rfl)) | (go_at_call 14; (with_reducible refine (SM.out _ sa sc R1.out hR.out).mono ?_); rintro e w6 ⟨rfl, hb⟩; (replace K1 := Lib.hid (hbk hb K1.out)); (replace B1 := Lib.hid (Buf.then_ B1.out hb)); (replace R1 := Lib.hid (R1.out.below hb))) | (go_at_call 23; (with_reducible refine (VY.out _ R1.out).mono ?_); rintro e w7 ⟨rfl, hb7⟩))
  go_ret
  exact ⟨rfl, Buf.then_ B1.out hb7⟩
end Pkt
end Go.Proofs.YtfebacopbacopaaDoor
