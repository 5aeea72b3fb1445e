/- The drawn region of RecordOrder's innermost loop. -/
import Derived.Test.YtojfnegogdllfaaRecVa
import Derived.Test.YtojfnegogdllfaaRecVb
import Derived.Test.YtojfnegogdllfaaRecVc
set_option linter.unusedVariables false
set_option linter.unusedSimpArgs false
namespace Go.Proofs.Ytojfnegogdllfaa
open Go.RowKit
namespace Rec
theorem region20 {s0 s1 s2 s3 : List UInt8} {u0 u1 u2 u3 u9 u11 u12 u13 u14 u15 u16 u17 u18 u19 u20 u21 u22 u23 u24 u25 u26 u27 u28 u29 u30 u31 u32 u33 u34 u35 u36 u37 u38 u39 u40 u41 u42 u43 u44 u45 u46 u47 u48 u49 u50 u51 u52 u53 u54 u55 u56 u57 u58 u59 u60 u61 u62 u63 u64 u65 u66 u67 u68 u69 u70 u71 u72 u73 u74 u75 u76 u77 u78 u79 u80 u81 u82 u83 u84 u85 u86 u87 u88 u89 u90 u91 u92 u93 u94 u95 u96 u97 u98 u99 u100 u101 u102 u103 u104 u105 u106 u107 u108 u109 u110 u111 u112 u113 u114 u115 u116 u117 u118 u119 u120 u121 u122 u123 u124 u125 u126 u127 u128 u129 u130 u131 u132 u133 u134 u135 u136 u137 u138 u139 u140 u141 u142 u143 u144 u145 u146 u147 u148 u149 u150 u151 u152 u153 u154 u155 u156 u157 u158 u159 u160 u161 u162 u163 u164 u165 : Value} {go mm mc i k j : Nat} {c : Int} {x : Bool} {ri rk rj : Rd} {w9 : World} {Q : Exit → Act → World → Prop} {c1 c2 : Int} {x1 x2 : Bool}
    (hm9 : mm ≤ 4) (hi : i < mm) (hk : k < mm) (hj : j < mm)
    (Gi : Hid (∀ w', Below w9.heap.size w9 w' → w'.rangeAt go (i * 12) (Rd.row s0 s1 s2 s3 ri))) (Gk : Hid (∀ w', Below w9.heap.size w9 w' → w'.rangeAt go (k * 12) (Rd.row s0 s1 s2 s3 rk))) (Gj : Hid (∀ w', Below w9.heap.size w9 w' → w'.rangeAt go (j * 12) (Rd.row s0 s1 s2 s3 rj)))
    (C1 : Hid (∀ w', Below w9.heap.size w9 w' → Calls Try.prog 22 #[.agg (Rd.row s0 s1 s2 s3 rk).toArray, .agg (Rd.row s0 s1 s2 s3 rj).toArray] w' fun e w'' => e = .returned (.int .i64 c1) ∧ Below w'.heap.size w' w''))
    (C2 : Hid (∀ w', Below w9.heap.size w9 w' → Calls Try.prog 22 #[.agg (Rd.row s0 s1 s2 s3 ri).toArray, .agg (Rd.row s0 s1 s2 s3 rj).toArray] w' fun e w'' => e = .returned (.int .i64 c2) ∧ Below w'.heap.size w' w''))
    (C3 : Hid (∀ w', Below w9.heap.size w9 w' → Calls Try.prog 23 #[.agg (Rd.row s0 s1 s2 s3 rk).toArray, .agg (Rd.row s0 s1 s2 s3 rj).toArray] w' fun e w'' => e = .returned (.bool x1) ∧ Below w'.heap.size w' w''))
    (C4 : Hid (∀ w', Below w9.heap.size w9 w' → Calls Try.prog 23 #[.agg (Rd.row s0 s1 s2 s3 ri).toArray, .agg (Rd.row s0 s1 s2 s3 rj).toArray] w' fun e w'' => e = .returned (.bool x2) ∧ Below w'.heap.size w' w''))
    (P1 : decide (c < 0) = false ∨ decide (c < 0) = true ∧ decide (c1 < 0) = false ∨ decide (c < 0) = true ∧ decide (c1 < 0) = true ∧ decide (c2 ≥ 0) = false)
    (P2 : x = false ∨ x = true ∧ x1 = false ∨ x = true ∧ x1 = true ∧ x2 = true)
    (hQ : ∀ (v110 v111 v112 v113 v114 v115 v116 v117 v118 v119 v120 v121 v122 v123 v124 v125 v126 v127 v128 v129 v130 v131 v132 v133 v134 v135 v136 v137 v138 v139 v140 v141 v142 v143 v144 v145 v146 v147 v148 v149 v150 v151 v152 v153 v154 v155 v156 v157 v158 v159 v160 : Value) (w' : World), Below w9.heap.size w9 w' → Q .normal ⟨List.toArray (u0 :: u1 :: u2 :: u3 :: (.slice (some ⟨go, 0, none⟩) mm mc) :: (.int .i64 i) :: (.int .i64 k) :: (.int .i64 c) :: (.bool x) :: u9 :: (.int .i64 j) :: u11 :: u12 :: u13 :: u14 :: u15 :: u16 :: u17 :: u18 :: u19 :: u20 :: u21 :: u22 :: u23 :: u24 :: u25 :: u26 :: u27 :: u28 :: u29 :: u30 :: u31 :: u32 :: u33 :: u34 :: u35 :: u36 :: u37 :: u38 :: u39 :: u40 :: u41 :: u42 :: u43 :: u44 :: u45 :: u46 :: u47 :: u48 :: u49 :: u50 :: u51 :: u52 :: u53 :: u54 :: u55 :: u56 :: u57 :: u58 :: u59 :: u60 :: u61 :: u62 :: u63 :: u64 :: u65 :: u66 :: u67 :: u68 :: u69 :: u70 :: u71 :: u72 :: u73 :: u74 :: u75 :: u76 :: u77 :: u78 :: u79 :: u80 :: u81 :: u82 :: u83 :: u84 :: u85 :: u86 :: u87 :: u88 :: u89 :: u90 :: u91 :: u92 :: u93 :: u94 :: u95 :: u96 :: u97 :: u98 :: u99 :: u100 :: u101 :: u102 :: u103 :: u104 :: u105 :: u106 :: u107 :: u108 :: u109 :: v110 :: v111 :: v112 :: v113 :: v114 :: v115 :: v116 :: v117 :: v118 :: v119 :: v120 :: v121 :: v122 :: v123 :: v124 :: v125 :: v126 :: v127 :: v128 :: v129 :: v130 :: v131 :: v132 :: v133 :: v134 :: v135 :: v136 :: v137 :: v138 :: v139 :: v140 :: v141 :: v142 :: v143 :: v144 :: v145 :: v146 :: v147 :: v148 :: v149 :: v150 :: v151 :: v152 :: v153 :: v154 :: v155 :: v156 :: v157 :: v158 :: v159 :: v160 :: (.bool false) :: u162 :: u163 :: u164 :: u165 :: []), []⟩ w') : reg20.wp Try.prog Q ⟨List.toArray (u0 :: u1 :: u2 :: u3 :: (.slice (some ⟨go, 0, none⟩) mm mc) :: (.int .i64 i) :: (.int .i64 k) :: (.int .i64 c) :: (.bool x) :: u9 :: (.int .i64 j) :: u11 :: u12 :: u13 :: u14 :: u15 :: u16 :: u17 :: u18 :: u19 :: u20 :: u21 :: u22 :: u23 :: u24 :: u25 :: u26 :: u27 :: u28 :: u29 :: u30 :: u31 :: u32 :: u33 :: u34 :: u35 :: u36 :: u37 :: u38 :: u39 :: u40 :: u41 :: u42 :: u43 :: u44 :: u45 :: u46 :: u47 :: u48 :: u49 :: u50 :: u51 :: u52 :: u53 :: u54 :: u55 :: u56 :: u57 :: u58 :: u59 :: u60 :: u61 :: u62 :: u63 :: u64 :: u65 :: u66 :: u67 :: u68 :: u69 :: u70 :: u71 :: u72 :: u73 :: u74 :: u75 :: u76 :: u77 :: u78 :: u79 :: u80 :: u81 :: u82 :: u83 :: u84 :: u85 :: u86 :: u87 :: u88 :: u89 :: u90 :: u91 :: u92 :: u93 :: u94 :: u95 :: u96 :: u97 :: u98 :: u99 :: u100 :: u101 :: u102 :: u103 :: u104 :: u105 :: u106 :: u107 :: u108 :: u109 :: u110 :: u111 :: u112 :: u113 :: u114 :: u115 :: u116 :: u117 :: u118 :: u119 :: u120 :: u121 :: u122 :: u123 :: u124 :: u125 :: u126 :: u127 :: u128 :: u129 :: u130 :: u131 :: u132 :: u133 :: u134 :: u135 :: u136 :: u137 :: u138 :: u139 :: u140 :: u141 :: u142 :: u143 :: u144 :: u145 :: u146 :: u147 :: u148 :: u149 :: u150 :: u151 :: u152 :: u153 :: u154 :: u155 :: u156 :: u157 :: u158 :: u159 :: u160 :: u161 :: u162 :: u163 :: u164 :: u165 :: []), []⟩ w9 := by
  rcases P1 with p1 | ⟨p1, p2⟩ | ⟨p1, p2, p3⟩
  · rcases P2 with q1 | ⟨q1, q2⟩ | ⟨q1, q2, q3⟩
    · exact region20_ax hm9 hi hk hj Gi Gk Gj C1 C2 C3 C4 p1 q1 hQ
    · exact region20_ay hm9 hi hk hj Gi Gk Gj C1 C2 C3 C4 p1 q1 q2 hQ
    · exact region20_az hm9 hi hk hj Gi Gk Gj C1 C2 C3 C4 p1 q1 q2 q3 hQ
  · rcases P2 with q1 | ⟨q1, q2⟩ | ⟨q1, q2, q3⟩
    · exact region20_bx hm9 hi hk hj Gi Gk Gj C1 C2 C3 C4 p1 p2 q1 hQ
    · exact region20_by hm9 hi hk hj Gi Gk Gj C1 C2 C3 C4 p1 p2 q1 q2 hQ
    · exact region20_bz hm9 hi hk hj Gi Gk Gj C1 C2 C3 C4 p1 p2 q1 q2 q3 hQ
  · rcases P2 with q1 | ⟨q1, q2⟩ | ⟨q1, q2, q3⟩
    · exact region20_cx hm9 hi hk hj Gi Gk Gj C1 C2 C3 C4 p1 p2 p3 q1 hQ
    · exact region20_cy hm9 hi hk hj Gi Gk Gj C1 C2 C3 C4 p1 p2 p3 q1 q2 hQ
    · exact region20_cz hm9 hi hk hj Gi Gk Gj C1 C2 C3 C4 p1 p2 p3 q1 q2 q3 hQ
end Rec
end Go.Proofs.Ytojfnegogdllfaa
