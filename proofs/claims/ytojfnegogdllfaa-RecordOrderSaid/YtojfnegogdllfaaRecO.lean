/- Package record: Compare. -/
import Derived.Test.YtojfnegogdllfaaRecN
set_option linter.unusedVariables false
set_option linter.unusedSimpArgs false
namespace Go.Proofs.Ytojfnegogdllfaa
open Go.RowKit
namespace Rec
open Dice Sc
section
variable {s0 s1 s2 s3 : List UInt8} {st fi num den er ru se st' fi' num' den' er' ru' se' : Int}
theorem cR_split (ta tb : Int) (n n' : Nat) (xs ys : List Int) : cR (ta, st, fi, num, den, er, ru, se, (n : Int), xs) (tb, st', fi', num', den', er', ru', se', (n' : Int), ys) = if cI ta tb = 0 then firstNZ [cI st st', cI fi fi', cI num num', cI den den', cI er er', cI ru ru', cI se se', cI (n : Int) (n' : Int), cL xs ys] else cI ta tb := by
  have h : cR (ta, st, fi, num, den, er, ru, se, (n : Int), xs) (tb, st', fi', num', den', er', ru', se', (n' : Int), ys) = firstNZ (cI ta tb :: [cI st st', cI fi fi', cI num num', cI den den', cI er er', cI ru ru', cI se se', cI (n : Int) (n' : Int), cL xs ys]) := lex_first _ _ _ (lex_first _ _ _ (lex_first _ _ _ (lex_first _ _ _ (lex_first _ _ _ (lex_first _ _ _ (lex_first _ _ _ (lex_first _ _ _ (lex_first _ _ _ (one_first _)))))))))
  rw [h]; rfl
set_option maxHeartbeats 4000000 in
set_option maxRecDepth 100000 in
theorem compare_any (P : RP s0 s1 s2 s3 st fi num den er ru se) (P' : RP s0 s1 s2 s3 st' fi' num' den' er' ru' se') {b n c b' n' c' : Nat} {xs ys : List Int} {w : World} (X : RX w b n c xs) (X' : RX w b' n' c' ys) :
    Calls Try.prog 22 #[.agg #[.string ⟨s0.toArray⟩, .string ⟨s1.toArray⟩, .string ⟨s2.toArray⟩, .string ⟨s3.toArray⟩, .int .i64 st, .int .i64 fi, .int .i64 num, .int .i64 den, .int .i64 er, .int .i64 ru, .int .i64 se, .slice (some ⟨b, 0, none⟩) n c], .agg #[.string ⟨s0.toArray⟩, .string ⟨s1.toArray⟩, .string ⟨s2.toArray⟩, .string ⟨s3.toArray⟩, .int .i64 st', .int .i64 fi', .int .i64 num', .int .i64 den', .int .i64 er', .int .i64 ru', .int .i64 se', .slice (some ⟨b', 0, none⟩) n' c']] w fun e w' => e = .returned (.int .i64 (cR (tm st fi num den 0, st, fi, num, den, er, ru, se, (n : Int), xs) (tm st' fi' num' den' 0, st', fi', num', den', er', ru', se', (n' : Int), ys))) ∧ Below w.heap.size w w' := by
  have n9 := X.h9
  have n9' := X'.h9
  obtain ⟨w0, hw0e⟩ : ∃ w0, w0 = (w.alloc (.cells #[.string ⟨s0.toArray⟩, .string ⟨s1.toArray⟩, .string ⟨s2.toArray⟩, .string ⟨s3.toArray⟩, .int .i64 st, .int .i64 fi, .int .i64 num, .int .i64 den, .int .i64 er, .int .i64 ru, .int .i64 se, .slice (some ⟨b, 0, none⟩) n c] 32)).alloc (.cells #[.string ⟨s0.toArray⟩, .string ⟨s1.toArray⟩, .string ⟨s2.toArray⟩, .string ⟨s3.toArray⟩, .int .i64 st', .int .i64 fi', .int .i64 num', .int .i64 den', .int .i64 er', .int .i64 ru', .int .i64 se', .slice (some ⟨b', 0, none⟩) n' c'] 32) := ⟨_, rfl⟩
  have eS : (w.alloc (.cells #[.string ⟨s0.toArray⟩, .string ⟨s1.toArray⟩, .string ⟨s2.toArray⟩, .string ⟨s3.toArray⟩, .int .i64 st, .int .i64 fi, .int .i64 num, .int .i64 den, .int .i64 er, .int .i64 ru, .int .i64 se, .slice (some ⟨b, 0, none⟩) n c] 32)).heap.size = w.heap.size + 1 := by simp
  have Y0 : Hid (Below w.heap.size w w0) := Lib.hid (by rw [hw0e]; exact (new_block _).alloc (by simp) _)
  have KA := Lib.hid (show w0.heap[w.heap.size]? = some (.cells #[.string ⟨s0.toArray⟩, .string ⟨s1.toArray⟩, .string ⟨s2.toArray⟩, .string ⟨s3.toArray⟩, .int .i64 st, .int .i64 fi, .int .i64 num, .int .i64 den, .int .i64 er, .int .i64 ru, .int .i64 se, .slice (some ⟨b, 0, none⟩) n c] 32 (0, 0)) by rw [hw0e]; exact (heap_alloc_old _ _ (by simp)).trans (heap_alloc_new w _))
  have KB := Lib.hid (show w0.heap[w.heap.size + 1]? = some (.cells #[.string ⟨s0.toArray⟩, .string ⟨s1.toArray⟩, .string ⟨s2.toArray⟩, .string ⟨s3.toArray⟩, .int .i64 st', .int .i64 fi', .int .i64 num', .int .i64 den', .int .i64 er', .int .i64 ru', .int .i64 se', .slice (some ⟨b', 0, none⟩) n' c'] 32 (0, 0)) by rw [hw0e, ← eS]; exact heap_alloc_new _ _)
  have FA := Lib.hid fun (w' : World) (h' : Below w.heap.size w w') => firstTime_any P (X.keep h')
  have FB := Lib.hid fun (w' : World) (h' : Below w.heap.size w w') => firstTime_any P' (X'.keep h')
  have CZ := Lib.hid fun (w' : World) (h' : Below w.heap.size w w') => compare_ints (c := c) (c' := c') (X.keep h').sr (X'.keep h').sr X.hn X'.hn n9 n9'
  have SO := Lib.hid fun w' => source_same s0 s1 s2 s3 w'
  clear P P' X X'
  generalize tm st fi num den 0 = ta at *
  generalize tm st' fi' num' den' 0 = tb at *
  obtain ⟨rr, hrr⟩ : ∃ rr, rr = cR (ta, st, fi, num, den, er, ru, se, (n : Int), xs) (tb, st', fi', num', den', er', ru', se', (n' : Int), ys) := ⟨_, rfl⟩
  rw [← hrr]
  rw [cR_split] at hrr
  obtain ⟨ct, hct⟩ : ∃ ct, ct = cI ta tb := ⟨_, rfl⟩
  have CT := cmp_any ta tb
  rw [← hct] at hrr CT
  replace CT := Lib.hid CT
  replace hrr := Lib.hid hrr
  replace hct := Lib.hid hct
  go_enter Try.func22, Try.ntmps22
  go_upto_region 1 with fail
  rw [← hw0e]
  clear hw0e eS
  obtain ⟨x0, x1, x2, x3, x4, x5, x6, x7, x8, x9, x10, x11⟩ := c12 KA.out
  obtain ⟨y0, y1, y2, y3, y4, y5, y6, y7, y8, y9, y10, y11⟩ := c12 KB.out
  go_upto_region 4 with (go_at_call 37; with_reducible refine (SO.out _).mono ?_; rintro e w1 ⟨rfl, hc⟩; (replace KA := Lib.hid (hb hc KA.out)); (replace KB := Lib.hid (hb hc KB.out)); (replace Y0 := Lib.hid (Buf.then_ Y0.out hc)); (clear hc x0 x1 x2 x3 x4 x5 x6 x7 x8 x9 x10 x11 y0 y1 y2 y3 y4 y5 y6 y7 y8 y9 y10 y11))
  refine Buf.region_calm w1 (by kernel_rfl) (by kernel_rfl) (Below.refl _ _) ?_
  repeat (go_big_quiet_step ((intro hC; first
    | (go_at_call 39; with_reducible exact Buf.calm hC (FA.out _ (Buf.then_ Y0.out hC)))
    | (go_at_call 39; with_reducible exact Buf.calm hC (FB.out _ (Buf.then_ Y0.out hC)))
    | (go_at_call 38; with_reducible exact Buf.calm hC ((CT.out _).mono fun _ _ h => ⟨h.1, by rw [h.2]; exact Below.refl _ _⟩))
    | rfl
    | (obtain ⟨x0, x1, x2, x3, x4, x5, x6, x7, x8, x9, x10, x11⟩ := c12 (hb hC KA.out); simp only [x0, x1, x2, x3, x4, x5, x6, x7, x8, x9, x10, x11, Result.andThen_ok]; first | exact ⟨trivial, rfl⟩ | rfl)
    | (obtain ⟨y0, y1, y2, y3, y4, y5, y6, y7, y8, y9, y10, y11⟩ := c12 (hb hC KB.out); simp only [y0, y1, y2, y3, y4, y5, y6, y7, y8, y9, y10, y11, Result.andThen_ok]; first | exact ⟨trivial, rfl⟩ | rfl))))
  refine wpQuiet_nil ?_
  intro wz hc
  replace KA := Lib.hid (hb hc KA.out)
  replace KB := Lib.hid (hb hc KB.out)
  have YZ := Lib.hid (Buf.then_ Y0.out hc)
  clear hc Y0
  by_cases h0 : ct = 0
  · subst h0
    have hr : Hid (rr = firstNZ [cI st st', cI fi fi', cI num num', cI den den', cI er er', cI ru ru', cI se se', cI (n : Int) (n' : Int), cL xs ys]) := Lib.hid (by have := hrr.out; rwa [if_pos rfl] at this)
    clear hrr
    have CI := Lib.hid fun (w' : World) (h' : Below wz.heap.size wz w') => CZ.out w' (Buf.then_ YZ.out h')
    obtain ⟨r, hrq⟩ : ∃ r, r = rr := ⟨_, rfl⟩
    subst hrq
    go_upto_region 7 with fail
    have hw0 : Below wz.heap.size wz wz.drew := (Below.refl _ _).drew
    refine wp_region_noPanic ?_
    refine wp_region_any (by kernel_rfl) ?_
    refine Inv.wpAny_inv (fun k => k == 53) [23, 24, 25, 26, 27, 28, 29, 30, 31, 32, 33, 34, 35, 36, 37, 38, 39, 40, 41, 42, 43, 44, 45, 46, 47, 48, 49, 50, 51, 52, 53, 54, 55, 56, 57, 58, 59, 60, 61, 62, 63, 64, 65, 66, 67, 68, 69, 70, 71, 72, 73, 74, 75] (fun w' => Below wz.heap.size wz w') (fun _ w1 w2 => Below w1.heap.size w1 w2) (fun k => ([fun v_ w_ => v_ = .pointer (some ⟨w.heap.size, 4, none⟩), fun v_ w_ => v_ = .int .i64 st, fun v_ w_ => v_ = .pointer (some ⟨w.heap.size + 1, 4, none⟩), fun v_ w_ => v_ = .int .i64 st', fun v_ w_ => v_ = .int .i64 (cI st st'), fun v_ w_ => v_ = .pointer (some ⟨w.heap.size, 5, none⟩), fun v_ w_ => v_ = .int .i64 fi, fun v_ w_ => v_ = .pointer (some ⟨w.heap.size + 1, 5, none⟩), fun v_ w_ => v_ = .int .i64 fi', fun v_ w_ => v_ = .int .i64 (cI fi fi'), fun v_ w_ => v_ = .pointer (some ⟨w.heap.size, 6, none⟩), fun v_ w_ => v_ = .pointer (some ⟨w.heap.size, 6, none⟩), fun v_ w_ => v_ = .int .i64 num, fun v_ w_ => v_ = .pointer (some ⟨w.heap.size + 1, 6, none⟩), fun v_ w_ => v_ = .pointer (some ⟨w.heap.size + 1, 6, none⟩), fun v_ w_ => v_ = .int .i64 num', fun v_ w_ => v_ = .int .i64 (cI num num'), fun v_ w_ => v_ = .pointer (some ⟨w.heap.size, 6, none⟩), fun v_ w_ => v_ = .pointer (some ⟨w.heap.size, 7, none⟩), fun v_ w_ => v_ = .int .i64 den, fun v_ w_ => v_ = .pointer (some ⟨w.heap.size + 1, 6, none⟩), fun v_ w_ => v_ = .pointer (some ⟨w.heap.size + 1, 7, none⟩), fun v_ w_ => v_ = .int .i64 den', fun v_ w_ => v_ = .int .i64 (cI den den'), fun v_ w_ => v_ = .pointer (some ⟨w.heap.size, 8, none⟩), fun v_ w_ => v_ = .int .i64 er, fun v_ w_ => v_ = .pointer (some ⟨w.heap.size + 1, 8, none⟩), fun v_ w_ => v_ = .int .i64 er', fun v_ w_ => v_ = .int .i64 (cI er er'), fun v_ w_ => v_ = .pointer (some ⟨w.heap.size, 9, none⟩), fun v_ w_ => v_ = .int .i64 ru, fun v_ w_ => v_ = .pointer (some ⟨w.heap.size + 1, 9, none⟩), fun v_ w_ => v_ = .int .i64 ru', fun v_ w_ => v_ = .int .i64 (cI ru ru'), fun v_ w_ => v_ = .pointer (some ⟨w.heap.size, 10, none⟩), fun v_ w_ => v_ = .int .i64 se, fun v_ w_ => v_ = .pointer (some ⟨w.heap.size + 1, 10, none⟩), fun v_ w_ => v_ = .int .i64 se', fun v_ w_ => v_ = .int .i64 (cI se se'), fun v_ w_ => v_ = .pointer (some ⟨w.heap.size, 11, none⟩), fun v_ w_ => v_ = .slice (some ⟨b, 0, none⟩) n c, fun v_ w_ => v_ = .int .i64 (n : Int), fun v_ w_ => v_ = .pointer (some ⟨w.heap.size + 1, 11, none⟩), fun v_ w_ => v_ = .slice (some ⟨b', 0, none⟩) n' c', fun v_ w_ => v_ = .int .i64 (n' : Int), fun v_ w_ => v_ = .int .i64 (cI (n : Int) (n' : Int)), fun v_ w_ => v_ = .pointer (some ⟨w.heap.size, 11, none⟩), fun v_ w_ => v_ = .slice (some ⟨b, 0, none⟩) n c, fun v_ w_ => v_ = .pointer (some ⟨w.heap.size + 1, 11, none⟩), fun v_ w_ => v_ = .slice (some ⟨b', 0, none⟩) n' c', fun v_ w_ => v_ = .int .i64 (cL xs ys), fun v_ w_ => ∃ g, v_ = .slice (some ⟨g, 0, none⟩) 9 9 ∧ w_.heap[g]? = some (.cells #[.int .i64 (cI st st'), .int .i64 (cI fi fi'), .int .i64 (cI num num'), .int .i64 (cI den den'), .int .i64 (cI er er'), .int .i64 (cI ru ru'), .int .i64 (cI se se'), .int .i64 (cI (n : Int) (n' : Int)), .int .i64 (cL xs ys)] 3 (0, 0)), fun v_ w_ => v_ = .int .i64 r, fun v_ w_ => True] : List (Value → World → Prop)).getD k (fun _ _ => True)) _ (fun σ => by simp only [Inv.putAll, List.foldl_cons, List.foldl_nil, Act.put, List.setIfInBounds_toArray, List.set_cons_zero, List.set_cons_succ]; rfl) (by kernel_rfl) (by kernel_rfl) ?_ hw0 ?_ ?_ 1 #[true, true, true, true, true, true, true, true, true, true, true, true, true, true, true, true, true, true, true, true, true, true, true, true, true, true, true, true, true, true, true, true, true, true, true, true, true, true, true, true, true, true, true, true, true, true, true, true, true, true, true, true, true, false] (by kernel_rfl) (by kernel_rfl) ?_
    · intro j k v w1 w2 hjk hv hr
      rcases k with _ | k
      · exact hv
      rcases k with _ | k
      · exact hv
      rcases k with _ | k
      · exact hv
      rcases k with _ | k
      · exact hv
      rcases k with _ | k
      · exact hv
      rcases k with _ | k
      · exact hv
      rcases k with _ | k
      · exact hv
      rcases k with _ | k
      · exact hv
      rcases k with _ | k
      · exact hv
      rcases k with _ | k
      · exact hv
      rcases k with _ | k
      · exact hv
      rcases k with _ | k
      · exact hv
      rcases k with _ | k
      · exact hv
      rcases k with _ | k
      · exact hv
      rcases k with _ | k
      · exact hv
      rcases k with _ | k
      · exact hv
      rcases k with _ | k
      · exact hv
      rcases k with _ | k
      · exact hv
      rcases k with _ | k
      · exact hv
      rcases k with _ | k
      · exact hv
      rcases k with _ | k
      · exact hv
      rcases k with _ | k
      · exact hv
      rcases k with _ | k
      · exact hv
      rcases k with _ | k
      · exact hv
      rcases k with _ | k
      · exact hv
      rcases k with _ | k
      · exact hv
      rcases k with _ | k
      · exact hv
      rcases k with _ | k
      · exact hv
      rcases k with _ | k
      · exact hv
      rcases k with _ | k
      · exact hv
      rcases k with _ | k
      · exact hv
      rcases k with _ | k
      · exact hv
      rcases k with _ | k
      · exact hv
      rcases k with _ | k
      · exact hv
      rcases k with _ | k
      · exact hv
      rcases k with _ | k
      · exact hv
      rcases k with _ | k
      · exact hv
      rcases k with _ | k
      · exact hv
      rcases k with _ | k
      · exact hv
      rcases k with _ | k
      · exact hv
      rcases k with _ | k
      · exact hv
      rcases k with _ | k
      · exact hv
      rcases k with _ | k
      · exact hv
      rcases k with _ | k
      · exact hv
      rcases k with _ | k
      · exact hv
      rcases k with _ | k
      · exact hv
      rcases k with _ | k
      · exact hv
      rcases k with _ | k
      · exact hv
      rcases k with _ | k
      · exact hv
      rcases k with _ | k
      · exact hv
      rcases k with _ | k
      · exact hv
      rcases k with _ | k
      · exact (by obtain ⟨g, h1, h2⟩ := hv; exact ⟨g, h1, hb hr h2⟩)
      rcases k with _ | k
      · exact hv
      rcases k with _ | k
      · exact hv
      · exact hv
    · intro k t hl hd
      rcases k with _ | k
      · exact absurd hl (by decide +kernel)
      rcases k with _ | k
      · exact absurd hl (by decide +kernel)
      rcases k with _ | k
      · exact absurd hl (by decide +kernel)
      rcases k with _ | k
      · exact absurd hl (by decide +kernel)
      rcases k with _ | k
      · exact absurd hl (by decide +kernel)
      rcases k with _ | k
      · exact absurd hl (by decide +kernel)
      rcases k with _ | k
      · exact absurd hl (by decide +kernel)
      rcases k with _ | k
      · exact absurd hl (by decide +kernel)
      rcases k with _ | k
      · exact absurd hl (by decide +kernel)
      rcases k with _ | k
      · exact absurd hl (by decide +kernel)
      rcases k with _ | k
      · exact absurd hl (by decide +kernel)
      rcases k with _ | k
      · exact absurd hl (by decide +kernel)
      rcases k with _ | k
      · exact absurd hl (by decide +kernel)
      rcases k with _ | k
      · exact absurd hl (by decide +kernel)
      rcases k with _ | k
      · exact absurd hl (by decide +kernel)
      rcases k with _ | k
      · exact absurd hl (by decide +kernel)
      rcases k with _ | k
      · exact absurd hl (by decide +kernel)
      rcases k with _ | k
      · exact absurd hl (by decide +kernel)
      rcases k with _ | k
      · exact absurd hl (by decide +kernel)
      rcases k with _ | k
      · exact absurd hl (by decide +kernel)
      rcases k with _ | k
      · exact absurd hl (by decide +kernel)
      rcases k with _ | k
      · exact absurd hl (by decide +kernel)
      rcases k with _ | k
      · exact absurd hl (by decide +kernel)
      rcases k with _ | k
      · exact absurd hl (by decide +kernel)
      rcases k with _ | k
      · exact absurd hl (by decide +kernel)
      rcases k with _ | k
      · exact absurd hl (by decide +kernel)
      rcases k with _ | k
      · exact absurd hl (by decide +kernel)
      rcases k with _ | k
      · exact absurd hl (by decide +kernel)
      rcases k with _ | k
      · exact absurd hl (by decide +kernel)
      rcases k with _ | k
      · exact absurd hl (by decide +kernel)
      rcases k with _ | k
      · exact absurd hl (by decide +kernel)
      rcases k with _ | k
      · exact absurd hl (by decide +kernel)
      rcases k with _ | k
      · exact absurd hl (by decide +kernel)
      rcases k with _ | k
      · exact absurd hl (by decide +kernel)
      rcases k with _ | k
      · exact absurd hl (by decide +kernel)
      rcases k with _ | k
      · exact absurd hl (by decide +kernel)
      rcases k with _ | k
      · exact absurd hl (by decide +kernel)
      rcases k with _ | k
      · exact absurd hl (by decide +kernel)
      rcases k with _ | k
      · exact absurd hl (by decide +kernel)
      rcases k with _ | k
      · exact absurd hl (by decide +kernel)
      rcases k with _ | k
      · exact absurd hl (by decide +kernel)
      rcases k with _ | k
      · exact absurd hl (by decide +kernel)
      rcases k with _ | k
      · exact absurd hl (by decide +kernel)
      rcases k with _ | k
      · exact absurd hl (by decide +kernel)
      rcases k with _ | k
      · exact absurd hl (by decide +kernel)
      rcases k with _ | k
      · exact absurd hl (by decide +kernel)
      rcases k with _ | k
      · exact absurd hl (by decide +kernel)
      rcases k with _ | k
      · exact absurd hl (by decide +kernel)
      rcases k with _ | k
      · exact absurd hl (by decide +kernel)
      rcases k with _ | k
      · exact absurd hl (by decide +kernel)
      rcases k with _ | k
      · exact absurd hl (by decide +kernel)
      rcases k with _ | k
      · exact absurd hl (by decide +kernel)
      rcases k with _ | k
      · exact absurd hl (by decide +kernel)
      rcases k with _ | k
      · exact absurd hl (by decide +kernel)
      · simp at hd
    · show Inv.Steps _ _ _ _ _ _ _ _ [0, 1, 2, 3, 4, 5, 6, 7, 8, 9, 10, 11, 12, 13, 14, 15, 16, 17, 18, 19, 20, 21, 22, 23, 24, 25, 26, 27, 28, 29, 30, 31, 32, 33, 34, 35, 36, 37, 38, 39, 40, 41, 42, 43, 44, 45, 46, 47, 48, 49, 50, 51, 52]
      refine Inv.Steps.go (by decide) (by rfl) (fun σ wx hw hd K hK => ?_) ?_
      · simp only [List.getElem_toArray, List.getElem_cons_zero, List.getElem_cons_succ, Act.put, List.setIfInBounds_toArray, List.set_cons_zero, List.set_cons_succ] at hK ⊢
        go_simp
        exact hK.out _ _ hw (Below.refl _ _) (rfl)
      refine Inv.Steps.go (by decide) (by rfl) (fun σ wx hw hd K hK => ?_) ?_
      · obtain e23 : (σ 23) = .pointer (some ⟨w.heap.size, 4, none⟩) := hd 0 (some 23) (by kernel_rfl) (by rfl)
        simp only [List.getElem_toArray, List.getElem_cons_zero, List.getElem_cons_succ, Act.put, List.setIfInBounds_toArray, List.set_cons_zero, List.set_cons_succ, e23] at hK ⊢
        obtain ⟨x0, x1, x2, x3, x4, x5, x6, x7, x8, x9, x10, x11⟩ := c12 (hb hw KA.out)
        go_simp
        exact hK.out _ _ hw (Below.refl _ _) (rfl)
      refine Inv.Steps.go (by decide) (by rfl) (fun σ wx hw hd K hK => ?_) ?_
      · simp only [List.getElem_toArray, List.getElem_cons_zero, List.getElem_cons_succ, Act.put, List.setIfInBounds_toArray, List.set_cons_zero, List.set_cons_succ] at hK ⊢
        go_simp
        exact hK.out _ _ hw (Below.refl _ _) (rfl)
      refine Inv.Steps.go (by decide) (by rfl) (fun σ wx hw hd K hK => ?_) ?_
      · obtain e25 : (σ 25) = .pointer (some ⟨w.heap.size + 1, 4, none⟩) := hd 2 (some 25) (by kernel_rfl) (by rfl)
        simp only [List.getElem_toArray, List.getElem_cons_zero, List.getElem_cons_succ, Act.put, List.setIfInBounds_toArray, List.set_cons_zero, List.set_cons_succ, e25] at hK ⊢
        obtain ⟨y0, y1, y2, y3, y4, y5, y6, y7, y8, y9, y10, y11⟩ := c12 (hb hw KB.out)
        go_simp
        exact hK.out _ _ hw (Below.refl _ _) (rfl)
      refine Inv.Steps.go (by decide) (by rfl) (fun σ wx hw hd K hK => ?_) ?_
      · obtain e24 : (σ 24) = .int .i64 st := hd 1 (some 24) (by kernel_rfl) (by rfl)
        obtain e26 : (σ 26) = .int .i64 st' := hd 3 (some 26) (by kernel_rfl) (by rfl)
        simp only [List.getElem_toArray, List.getElem_cons_zero, List.getElem_cons_succ, Act.put, List.setIfInBounds_toArray, List.set_cons_zero, List.set_cons_succ, e24, e26] at hK ⊢
        go_simp
        go_at_call 38
        refine (cmp_any st st' wx).mono ?_
        rintro e w1 ⟨rfl, hw1⟩
        replace hw1 := hw1.symm
        subst hw1
        dsimp only
        exact hK.out _ _ hw (Below.refl _ _) (rfl)
      refine Inv.Steps.go (by decide) (by rfl) (fun σ wx hw hd K hK => ?_) ?_
      · simp only [List.getElem_toArray, List.getElem_cons_zero, List.getElem_cons_succ, Act.put, List.setIfInBounds_toArray, List.set_cons_zero, List.set_cons_succ] at hK ⊢
        go_simp
        exact hK.out _ _ hw (Below.refl _ _) (rfl)
      refine Inv.Steps.go (by decide) (by rfl) (fun σ wx hw hd K hK => ?_) ?_
      · obtain e28 : (σ 28) = .pointer (some ⟨w.heap.size, 5, none⟩) := hd 5 (some 28) (by kernel_rfl) (by rfl)
        simp only [List.getElem_toArray, List.getElem_cons_zero, List.getElem_cons_succ, Act.put, List.setIfInBounds_toArray, List.set_cons_zero, List.set_cons_succ, e28] at hK ⊢
        obtain ⟨x0, x1, x2, x3, x4, x5, x6, x7, x8, x9, x10, x11⟩ := c12 (hb hw KA.out)
        go_simp
        exact hK.out _ _ hw (Below.refl _ _) (rfl)
      refine Inv.Steps.go (by decide) (by rfl) (fun σ wx hw hd K hK => ?_) ?_
      · simp only [List.getElem_toArray, List.getElem_cons_zero, List.getElem_cons_succ, Act.put, List.setIfInBounds_toArray, List.set_cons_zero, List.set_cons_succ] at hK ⊢
        go_simp
        exact hK.out _ _ hw (Below.refl _ _) (rfl)
      refine Inv.Steps.go (by decide) (by rfl) (fun σ wx hw hd K hK => ?_) ?_
      · obtain e30 : (σ 30) = .pointer (some ⟨w.heap.size + 1, 5, none⟩) := hd 7 (some 30) (by kernel_rfl) (by rfl)
        simp only [List.getElem_toArray, List.getElem_cons_zero, List.getElem_cons_succ, Act.put, List.setIfInBounds_toArray, List.set_cons_zero, List.set_cons_succ, e30] at hK ⊢
        obtain ⟨y0, y1, y2, y3, y4, y5, y6, y7, y8, y9, y10, y11⟩ := c12 (hb hw KB.out)
        go_simp
        exact hK.out _ _ hw (Below.refl _ _) (rfl)
      refine Inv.Steps.go (by decide) (by rfl) (fun σ wx hw hd K hK => ?_) ?_
      · obtain e29 : (σ 29) = .int .i64 fi := hd 6 (some 29) (by kernel_rfl) (by rfl)
        obtain e31 : (σ 31) = .int .i64 fi' := hd 8 (some 31) (by kernel_rfl) (by rfl)
        simp only [List.getElem_toArray, List.getElem_cons_zero, List.getElem_cons_succ, Act.put, List.setIfInBounds_toArray, List.set_cons_zero, List.set_cons_succ, e29, e31] at hK ⊢
        go_simp
        go_at_call 38
        refine (cmp_any fi fi' wx).mono ?_
        rintro e w1 ⟨rfl, hw1⟩
        replace hw1 := hw1.symm
        subst hw1
        dsimp only
        exact hK.out _ _ hw (Below.refl _ _) (rfl)
      refine Inv.Steps.go (by decide) (by rfl) (fun σ wx hw hd K hK => ?_) ?_
      · simp only [List.getElem_toArray, List.getElem_cons_zero, List.getElem_cons_succ, Act.put, List.setIfInBounds_toArray, List.set_cons_zero, List.set_cons_succ] at hK ⊢
        go_simp
        exact hK.out _ _ hw (Below.refl _ _) (rfl)
      refine Inv.Steps.go (by decide) (by rfl) (fun σ wx hw hd K hK => ?_) ?_
      · obtain e33 : (σ 33) = .pointer (some ⟨w.heap.size, 6, none⟩) := hd 10 (some 33) (by kernel_rfl) (by rfl)
        simp only [List.getElem_toArray, List.getElem_cons_zero, List.getElem_cons_succ, Act.put, List.setIfInBounds_toArray, List.set_cons_zero, List.set_cons_succ, e33] at hK ⊢
        go_simp
        exact hK.out _ _ hw (Below.refl _ _) (rfl)
      refine Inv.Steps.go (by decide) (by rfl) (fun σ wx hw hd K hK => ?_) ?_
      · obtain e34 : (σ 34) = .pointer (some ⟨w.heap.size, 6, none⟩) := hd 11 (some 34) (by kernel_rfl) (by rfl)
        simp only [List.getElem_toArray, List.getElem_cons_zero, List.getElem_cons_succ, Act.put, List.setIfInBounds_toArray, List.set_cons_zero, List.set_cons_succ, e34] at hK ⊢
        obtain ⟨x0, x1, x2, x3, x4, x5, x6, x7, x8, x9, x10, x11⟩ := c12 (hb hw KA.out)
        go_simp
        exact hK.out _ _ hw (Below.refl _ _) (rfl)
      refine Inv.Steps.go (by decide) (by rfl) (fun σ wx hw hd K hK => ?_) ?_
      · simp only [List.getElem_toArray, List.getElem_cons_zero, List.getElem_cons_succ, Act.put, List.setIfInBounds_toArray, List.set_cons_zero, List.set_cons_succ] at hK ⊢
        go_simp
        exact hK.out _ _ hw (Below.refl _ _) (rfl)
      refine Inv.Steps.go (by decide) (by rfl) (fun σ wx hw hd K hK => ?_) ?_
      · obtain e36 : (σ 36) = .pointer (some ⟨w.heap.size + 1, 6, none⟩) := hd 13 (some 36) (by kernel_rfl) (by rfl)
        simp only [List.getElem_toArray, List.getElem_cons_zero, List.getElem_cons_succ, Act.put, List.setIfInBounds_toArray, List.set_cons_zero, List.set_cons_succ, e36] at hK ⊢
        go_simp
        exact hK.out _ _ hw (Below.refl _ _) (rfl)
      refine Inv.Steps.go (by decide) (by rfl) (fun σ wx hw hd K hK => ?_) ?_
      · obtain e37 : (σ 37) = .pointer (some ⟨w.heap.size + 1, 6, none⟩) := hd 14 (some 37) (by kernel_rfl) (by rfl)
        simp only [List.getElem_toArray, List.getElem_cons_zero, List.getElem_cons_succ, Act.put, List.setIfInBounds_toArray, List.set_cons_zero, List.set_cons_succ, e37] at hK ⊢
        obtain ⟨y0, y1, y2, y3, y4, y5, y6, y7, y8, y9, y10, y11⟩ := c12 (hb hw KB.out)
        go_simp
        exact hK.out _ _ hw (Below.refl _ _) (rfl)
      refine Inv.Steps.go (by decide) (by rfl) (fun σ wx hw hd K hK => ?_) ?_
      · obtain e35 : (σ 35) = .int .i64 num := hd 12 (some 35) (by kernel_rfl) (by rfl)
        obtain e38 : (σ 38) = .int .i64 num' := hd 15 (some 38) (by kernel_rfl) (by rfl)
        simp only [List.getElem_toArray, List.getElem_cons_zero, List.getElem_cons_succ, Act.put, List.setIfInBounds_toArray, List.set_cons_zero, List.set_cons_succ, e35, e38] at hK ⊢
        go_simp
        go_at_call 38
        refine (cmp_any num num' wx).mono ?_
        rintro e w1 ⟨rfl, hw1⟩
        replace hw1 := hw1.symm
        subst hw1
        dsimp only
        exact hK.out _ _ hw (Below.refl _ _) (rfl)
      refine Inv.Steps.go (by decide) (by rfl) (fun σ wx hw hd K hK => ?_) ?_
      · simp only [List.getElem_toArray, List.getElem_cons_zero, List.getElem_cons_succ, Act.put, List.setIfInBounds_toArray, List.set_cons_zero, List.set_cons_succ] at hK ⊢
        go_simp
        exact hK.out _ _ hw (Below.refl _ _) (rfl)
      refine Inv.Steps.go (by decide) (by rfl) (fun σ wx hw hd K hK => ?_) ?_
      · obtain e40 : (σ 40) = .pointer (some ⟨w.heap.size, 6, none⟩) := hd 17 (some 40) (by kernel_rfl) (by rfl)
        simp only [List.getElem_toArray, List.getElem_cons_zero, List.getElem_cons_succ, Act.put, List.setIfInBounds_toArray, List.set_cons_zero, List.set_cons_succ, e40] at hK ⊢
        go_simp
        exact hK.out _ _ hw (Below.refl _ _) (rfl)
      refine Inv.Steps.go (by decide) (by rfl) (fun σ wx hw hd K hK => ?_) ?_
      · obtain e41 : (σ 41) = .pointer (some ⟨w.heap.size, 7, none⟩) := hd 18 (some 41) (by kernel_rfl) (by rfl)
        simp only [List.getElem_toArray, List.getElem_cons_zero, List.getElem_cons_succ, Act.put, List.setIfInBounds_toArray, List.set_cons_zero, List.set_cons_succ, e41] at hK ⊢
        obtain ⟨x0, x1, x2, x3, x4, x5, x6, x7, x8, x9, x10, x11⟩ := c12 (hb hw KA.out)
        go_simp
        exact hK.out _ _ hw (Below.refl _ _) (rfl)
      refine Inv.Steps.go (by decide) (by rfl) (fun σ wx hw hd K hK => ?_) ?_
      · simp only [List.getElem_toArray, List.getElem_cons_zero, List.getElem_cons_succ, Act.put, List.setIfInBounds_toArray, List.set_cons_zero, List.set_cons_succ] at hK ⊢
        go_simp
        exact hK.out _ _ hw (Below.refl _ _) (rfl)
      refine Inv.Steps.go (by decide) (by rfl) (fun σ wx hw hd K hK => ?_) ?_
      · obtain e43 : (σ 43) = .pointer (some ⟨w.heap.size + 1, 6, none⟩) := hd 20 (some 43) (by kernel_rfl) (by rfl)
        simp only [List.getElem_toArray, List.getElem_cons_zero, List.getElem_cons_succ, Act.put, List.setIfInBounds_toArray, List.set_cons_zero, List.set_cons_succ, e43] at hK ⊢
        go_simp
        exact hK.out _ _ hw (Below.refl _ _) (rfl)
      refine Inv.Steps.go (by decide) (by rfl) (fun σ wx hw hd K hK => ?_) ?_
      · obtain e44 : (σ 44) = .pointer (some ⟨w.heap.size + 1, 7, none⟩) := hd 21 (some 44) (by kernel_rfl) (by rfl)
        simp only [List.getElem_toArray, List.getElem_cons_zero, List.getElem_cons_succ, Act.put, List.setIfInBounds_toArray, List.set_cons_zero, List.set_cons_succ, e44] at hK ⊢
        obtain ⟨y0, y1, y2, y3, y4, y5, y6, y7, y8, y9, y10, y11⟩ := c12 (hb hw KB.out)
        go_simp
        exact hK.out _ _ hw (Below.refl _ _) (rfl)
      refine Inv.Steps.go (by decide) (by rfl) (fun σ wx hw hd K hK => ?_) ?_
      · obtain e42 : (σ 42) = .int .i64 den := hd 19 (some 42) (by kernel_rfl) (by rfl)
        obtain e45 : (σ 45) = .int .i64 den' := hd 22 (some 45) (by kernel_rfl) (by rfl)
        simp only [List.getElem_toArray, List.getElem_cons_zero, List.getElem_cons_succ, Act.put, List.setIfInBounds_toArray, List.set_cons_zero, List.set_cons_succ, e42, e45] at hK ⊢
        go_simp
        go_at_call 38
        refine (cmp_any den den' wx).mono ?_
        rintro e w1 ⟨rfl, hw1⟩
        replace hw1 := hw1.symm
        subst hw1
        dsimp only
        exact hK.out _ _ hw (Below.refl _ _) (rfl)
      refine Inv.Steps.go (by decide) (by rfl) (fun σ wx hw hd K hK => ?_) ?_
      · simp only [List.getElem_toArray, List.getElem_cons_zero, List.getElem_cons_succ, Act.put, List.setIfInBounds_toArray, List.set_cons_zero, List.set_cons_succ] at hK ⊢
        go_simp
        exact hK.out _ _ hw (Below.refl _ _) (rfl)
      refine Inv.Steps.go (by decide) (by rfl) (fun σ wx hw hd K hK => ?_) ?_
      · obtain e47 : (σ 47) = .pointer (some ⟨w.heap.size, 8, none⟩) := hd 24 (some 47) (by kernel_rfl) (by rfl)
        simp only [List.getElem_toArray, List.getElem_cons_zero, List.getElem_cons_succ, Act.put, List.setIfInBounds_toArray, List.set_cons_zero, List.set_cons_succ, e47] at hK ⊢
        obtain ⟨x0, x1, x2, x3, x4, x5, x6, x7, x8, x9, x10, x11⟩ := c12 (hb hw KA.out)
        go_simp
        exact hK.out _ _ hw (Below.refl _ _) (rfl)
      refine Inv.Steps.go (by decide) (by rfl) (fun σ wx hw hd K hK => ?_) ?_
      · simp only [List.getElem_toArray, List.getElem_cons_zero, List.getElem_cons_succ, Act.put, List.setIfInBounds_toArray, List.set_cons_zero, List.set_cons_succ] at hK ⊢
        go_simp
        exact hK.out _ _ hw (Below.refl _ _) (rfl)
      refine Inv.Steps.go (by decide) (by rfl) (fun σ wx hw hd K hK => ?_) ?_
      · obtain e49 : (σ 49) = .pointer (some ⟨w.heap.size + 1, 8, none⟩) := hd 26 (some 49) (by kernel_rfl) (by rfl)
        simp only [List.getElem_toArray, List.getElem_cons_zero, List.getElem_cons_succ, Act.put, List.setIfInBounds_toArray, List.set_cons_zero, List.set_cons_succ, e49] at hK ⊢
        obtain ⟨y0, y1, y2, y3, y4, y5, y6, y7, y8, y9, y10, y11⟩ := c12 (hb hw KB.out)
        go_simp
        exact hK.out _ _ hw (Below.refl _ _) (rfl)
      refine Inv.Steps.go (by decide) (by rfl) (fun σ wx hw hd K hK => ?_) ?_
      · obtain e48 : (σ 48) = .int .i64 er := hd 25 (some 48) (by kernel_rfl) (by rfl)
        obtain e50 : (σ 50) = .int .i64 er' := hd 27 (some 50) (by kernel_rfl) (by rfl)
        simp only [List.getElem_toArray, List.getElem_cons_zero, List.getElem_cons_succ, Act.put, List.setIfInBounds_toArray, List.set_cons_zero, List.set_cons_succ, e48, e50] at hK ⊢
        go_simp
        go_at_call 38
        refine (cmp_any er er' wx).mono ?_
        rintro e w1 ⟨rfl, hw1⟩
        replace hw1 := hw1.symm
        subst hw1
        dsimp only
        exact hK.out _ _ hw (Below.refl _ _) (rfl)
      refine Inv.Steps.go (by decide) (by rfl) (fun σ wx hw hd K hK => ?_) ?_
      · simp only [List.getElem_toArray, List.getElem_cons_zero, List.getElem_cons_succ, Act.put, List.setIfInBounds_toArray, List.set_cons_zero, List.set_cons_succ] at hK ⊢
        go_simp
        exact hK.out _ _ hw (Below.refl _ _) (rfl)
      refine Inv.Steps.go (by decide) (by rfl) (fun σ wx hw hd K hK => ?_) ?_
      · obtain e52 : (σ 52) = .pointer (some ⟨w.heap.size, 9, none⟩) := hd 29 (some 52) (by kernel_rfl) (by rfl)
        simp only [List.getElem_toArray, List.getElem_cons_zero, List.getElem_cons_succ, Act.put, List.setIfInBounds_toArray, List.set_cons_zero, List.set_cons_succ, e52] at hK ⊢
        obtain ⟨x0, x1, x2, x3, x4, x5, x6, x7, x8, x9, x10, x11⟩ := c12 (hb hw KA.out)
        go_simp
        exact hK.out _ _ hw (Below.refl _ _) (rfl)
      refine Inv.Steps.go (by decide) (by rfl) (fun σ wx hw hd K hK => ?_) ?_
      · simp only [List.getElem_toArray, List.getElem_cons_zero, List.getElem_cons_succ, Act.put, List.setIfInBounds_toArray, List.set_cons_zero, List.set_cons_succ] at hK ⊢
        go_simp
        exact hK.out _ _ hw (Below.refl _ _) (rfl)
      refine Inv.Steps.go (by decide) (by rfl) (fun σ wx hw hd K hK => ?_) ?_
      · obtain e54 : (σ 54) = .pointer (some ⟨w.heap.size + 1, 9, none⟩) := hd 31 (some 54) (by kernel_rfl) (by rfl)
        simp only [List.getElem_toArray, List.getElem_cons_zero, List.getElem_cons_succ, Act.put, List.setIfInBounds_toArray, List.set_cons_zero, List.set_cons_succ, e54] at hK ⊢
        obtain ⟨y0, y1, y2, y3, y4, y5, y6, y7, y8, y9, y10, y11⟩ := c12 (hb hw KB.out)
        go_simp
        exact hK.out _ _ hw (Below.refl _ _) (rfl)
      refine Inv.Steps.go (by decide) (by rfl) (fun σ wx hw hd K hK => ?_) ?_
      · obtain e53 : (σ 53) = .int .i64 ru := hd 30 (some 53) (by kernel_rfl) (by rfl)
        obtain e55 : (σ 55) = .int .i64 ru' := hd 32 (some 55) (by kernel_rfl) (by rfl)
        simp only [List.getElem_toArray, List.getElem_cons_zero, List.getElem_cons_succ, Act.put, List.setIfInBounds_toArray, List.set_cons_zero, List.set_cons_succ, e53, e55] at hK ⊢
        go_simp
        go_at_call 38
        refine (cmp_any ru ru' wx).mono ?_
        rintro e w1 ⟨rfl, hw1⟩
        replace hw1 := hw1.symm
        subst hw1
        dsimp only
        exact hK.out _ _ hw (Below.refl _ _) (rfl)
      refine Inv.Steps.go (by decide) (by rfl) (fun σ wx hw hd K hK => ?_) ?_
      · simp only [List.getElem_toArray, List.getElem_cons_zero, List.getElem_cons_succ, Act.put, List.setIfInBounds_toArray, List.set_cons_zero, List.set_cons_succ] at hK ⊢
        go_simp
        exact hK.out _ _ hw (Below.refl _ _) (rfl)
      refine Inv.Steps.go (by decide) (by rfl) (fun σ wx hw hd K hK => ?_) ?_
      · obtain e57 : (σ 57) = .pointer (some ⟨w.heap.size, 10, none⟩) := hd 34 (some 57) (by kernel_rfl) (by rfl)
        simp only [List.getElem_toArray, List.getElem_cons_zero, List.getElem_cons_succ, Act.put, List.setIfInBounds_toArray, List.set_cons_zero, List.set_cons_succ, e57] at hK ⊢
        obtain ⟨x0, x1, x2, x3, x4, x5, x6, x7, x8, x9, x10, x11⟩ := c12 (hb hw KA.out)
        go_simp
        exact hK.out _ _ hw (Below.refl _ _) (rfl)
      refine Inv.Steps.go (by decide) (by rfl) (fun σ wx hw hd K hK => ?_) ?_
      · simp only [List.getElem_toArray, List.getElem_cons_zero, List.getElem_cons_succ, Act.put, List.setIfInBounds_toArray, List.set_cons_zero, List.set_cons_succ] at hK ⊢
        go_simp
        exact hK.out _ _ hw (Below.refl _ _) (rfl)
      refine Inv.Steps.go (by decide) (by rfl) (fun σ wx hw hd K hK => ?_) ?_
      · obtain e59 : (σ 59) = .pointer (some ⟨w.heap.size + 1, 10, none⟩) := hd 36 (some 59) (by kernel_rfl) (by rfl)
        simp only [List.getElem_toArray, List.getElem_cons_zero, List.getElem_cons_succ, Act.put, List.setIfInBounds_toArray, List.set_cons_zero, List.set_cons_succ, e59] at hK ⊢
        obtain ⟨y0, y1, y2, y3, y4, y5, y6, y7, y8, y9, y10, y11⟩ := c12 (hb hw KB.out)
        go_simp
        exact hK.out _ _ hw (Below.refl _ _) (rfl)
      refine Inv.Steps.go (by decide) (by rfl) (fun σ wx hw hd K hK => ?_) ?_
      · obtain e58 : (σ 58) = .int .i64 se := hd 35 (some 58) (by kernel_rfl) (by rfl)
        obtain e60 : (σ 60) = .int .i64 se' := hd 37 (some 60) (by kernel_rfl) (by rfl)
        simp only [List.getElem_toArray, List.getElem_cons_zero, List.getElem_cons_succ, Act.put, List.setIfInBounds_toArray, List.set_cons_zero, List.set_cons_succ, e58, e60] at hK ⊢
        go_simp
        go_at_call 38
        refine (cmp_any se se' wx).mono ?_
        rintro e w1 ⟨rfl, hw1⟩
        replace hw1 := hw1.symm
        subst hw1
        dsimp only
        exact hK.out _ _ hw (Below.refl _ _) (rfl)
      refine Inv.Steps.go (by decide) (by rfl) (fun σ wx hw hd K hK => ?_) ?_
      · simp only [List.getElem_toArray, List.getElem_cons_zero, List.getElem_cons_succ, Act.put, List.setIfInBounds_toArray, List.set_cons_zero, List.set_cons_succ] at hK ⊢
        go_simp
        exact hK.out _ _ hw (Below.refl _ _) (rfl)
      refine Inv.Steps.go (by decide) (by rfl) (fun σ wx hw hd K hK => ?_) ?_
      · obtain e62 : (σ 62) = .pointer (some ⟨w.heap.size, 11, none⟩) := hd 39 (some 62) (by kernel_rfl) (by rfl)
        simp only [List.getElem_toArray, List.getElem_cons_zero, List.getElem_cons_succ, Act.put, List.setIfInBounds_toArray, List.set_cons_zero, List.set_cons_succ, e62] at hK ⊢
        obtain ⟨x0, x1, x2, x3, x4, x5, x6, x7, x8, x9, x10, x11⟩ := c12 (hb hw KA.out)
        go_simp
        exact hK.out _ _ hw (Below.refl _ _) (rfl)
      refine Inv.Steps.go (by decide) (by rfl) (fun σ wx hw hd K hK => ?_) ?_
      · obtain e63 : (σ 63) = .slice (some ⟨b, 0, none⟩) n c := hd 40 (some 63) (by kernel_rfl) (by rfl)
        simp only [List.getElem_toArray, List.getElem_cons_zero, List.getElem_cons_succ, Act.put, List.setIfInBounds_toArray, List.set_cons_zero, List.set_cons_succ, e63] at hK ⊢
        go_simp
        exact hK.out _ _ hw (Below.refl _ _) (rfl)
      refine Inv.Steps.go (by decide) (by rfl) (fun σ wx hw hd K hK => ?_) ?_
      · simp only [List.getElem_toArray, List.getElem_cons_zero, List.getElem_cons_succ, Act.put, List.setIfInBounds_toArray, List.set_cons_zero, List.set_cons_succ] at hK ⊢
        go_simp
        exact hK.out _ _ hw (Below.refl _ _) (rfl)
      refine Inv.Steps.go (by decide) (by rfl) (fun σ wx hw hd K hK => ?_) ?_
      · obtain e65 : (σ 65) = .pointer (some ⟨w.heap.size + 1, 11, none⟩) := hd 42 (some 65) (by kernel_rfl) (by rfl)
        simp only [List.getElem_toArray, List.getElem_cons_zero, List.getElem_cons_succ, Act.put, List.setIfInBounds_toArray, List.set_cons_zero, List.set_cons_succ, e65] at hK ⊢
        obtain ⟨y0, y1, y2, y3, y4, y5, y6, y7, y8, y9, y10, y11⟩ := c12 (hb hw KB.out)
        go_simp
        exact hK.out _ _ hw (Below.refl _ _) (rfl)
      refine Inv.Steps.go (by decide) (by rfl) (fun σ wx hw hd K hK => ?_) ?_
      · obtain e66 : (σ 66) = .slice (some ⟨b', 0, none⟩) n' c' := hd 43 (some 66) (by kernel_rfl) (by rfl)
        simp only [List.getElem_toArray, List.getElem_cons_zero, List.getElem_cons_succ, Act.put, List.setIfInBounds_toArray, List.set_cons_zero, List.set_cons_succ, e66] at hK ⊢
        go_simp
        exact hK.out _ _ hw (Below.refl _ _) (rfl)
      refine Inv.Steps.go (by decide) (by rfl) (fun σ wx hw hd K hK => ?_) ?_
      · obtain e64 : (σ 64) = .int .i64 (n : Int) := hd 41 (some 64) (by kernel_rfl) (by rfl)
        obtain e67 : (σ 67) = .int .i64 (n' : Int) := hd 44 (some 67) (by kernel_rfl) (by rfl)
        simp only [List.getElem_toArray, List.getElem_cons_zero, List.getElem_cons_succ, Act.put, List.setIfInBounds_toArray, List.set_cons_zero, List.set_cons_succ, e64, e67] at hK ⊢
        go_simp
        go_at_call 38
        refine (cmp_any (n : Int) (n' : Int) wx).mono ?_
        rintro e w1 ⟨rfl, hw1⟩
        replace hw1 := hw1.symm
        subst hw1
        dsimp only
        exact hK.out _ _ hw (Below.refl _ _) (rfl)
      refine Inv.Steps.go (by decide) (by rfl) (fun σ wx hw hd K hK => ?_) ?_
      · simp only [List.getElem_toArray, List.getElem_cons_zero, List.getElem_cons_succ, Act.put, List.setIfInBounds_toArray, List.set_cons_zero, List.set_cons_succ] at hK ⊢
        go_simp
        exact hK.out _ _ hw (Below.refl _ _) (rfl)
      refine Inv.Steps.go (by decide) (by rfl) (fun σ wx hw hd K hK => ?_) ?_
      · obtain e69 : (σ 69) = .pointer (some ⟨w.heap.size, 11, none⟩) := hd 46 (some 69) (by kernel_rfl) (by rfl)
        simp only [List.getElem_toArray, List.getElem_cons_zero, List.getElem_cons_succ, Act.put, List.setIfInBounds_toArray, List.set_cons_zero, List.set_cons_succ, e69] at hK ⊢
        obtain ⟨x0, x1, x2, x3, x4, x5, x6, x7, x8, x9, x10, x11⟩ := c12 (hb hw KA.out)
        go_simp
        exact hK.out _ _ hw (Below.refl _ _) (rfl)
      refine Inv.Steps.go (by decide) (by rfl) (fun σ wx hw hd K hK => ?_) ?_
      · simp only [List.getElem_toArray, List.getElem_cons_zero, List.getElem_cons_succ, Act.put, List.setIfInBounds_toArray, List.set_cons_zero, List.set_cons_succ] at hK ⊢
        go_simp
        exact hK.out _ _ hw (Below.refl _ _) (rfl)
      refine Inv.Steps.go (by decide) (by rfl) (fun σ wx hw hd K hK => ?_) ?_
      · obtain e71 : (σ 71) = .pointer (some ⟨w.heap.size + 1, 11, none⟩) := hd 48 (some 71) (by kernel_rfl) (by rfl)
        simp only [List.getElem_toArray, List.getElem_cons_zero, List.getElem_cons_succ, Act.put, List.setIfInBounds_toArray, List.set_cons_zero, List.set_cons_succ, e71] at hK ⊢
        obtain ⟨y0, y1, y2, y3, y4, y5, y6, y7, y8, y9, y10, y11⟩ := c12 (hb hw KB.out)
        go_simp
        exact hK.out _ _ hw (Below.refl _ _) (rfl)
      refine Inv.Steps.go (by decide) (by rfl) (fun σ wx hw hd K hK => ?_) ?_
      · obtain e70 : (σ 70) = .slice (some ⟨b, 0, none⟩) n c := hd 47 (some 70) (by kernel_rfl) (by rfl)
        obtain e72 : (σ 72) = .slice (some ⟨b', 0, none⟩) n' c' := hd 49 (some 72) (by kernel_rfl) (by rfl)
        simp only [List.getElem_toArray, List.getElem_cons_zero, List.getElem_cons_succ, Act.put, List.setIfInBounds_toArray, List.set_cons_zero, List.set_cons_succ, e70, e72] at hK ⊢
        go_simp
        go_at_call 41
        refine (CI.out wx hw).mono ?_
        rintro e w1 ⟨rfl, hw1⟩
        replace hw1 := hw1.symm
        subst hw1
        dsimp only
        exact hK.out _ _ hw (Below.refl _ _) (rfl)
      refine Inv.Steps.go (by decide) (by rfl) (fun σ wx hw hd K hK => ?_) ?_
      · obtain e27 : (σ 27) = .int .i64 (cI st st') := hd 4 (some 27) (by kernel_rfl) (by rfl)
        obtain e32 : (σ 32) = .int .i64 (cI fi fi') := hd 9 (some 32) (by kernel_rfl) (by rfl)
        obtain e39 : (σ 39) = .int .i64 (cI num num') := hd 16 (some 39) (by kernel_rfl) (by rfl)
        obtain e46 : (σ 46) = .int .i64 (cI den den') := hd 23 (some 46) (by kernel_rfl) (by rfl)
        obtain e51 : (σ 51) = .int .i64 (cI er er') := hd 28 (some 51) (by kernel_rfl) (by rfl)
        obtain e56 : (σ 56) = .int .i64 (cI ru ru') := hd 33 (some 56) (by kernel_rfl) (by rfl)
        obtain e61 : (σ 61) = .int .i64 (cI se se') := hd 38 (some 61) (by kernel_rfl) (by rfl)
        obtain e68 : (σ 68) = .int .i64 (cI (n : Int) (n' : Int)) := hd 45 (some 68) (by kernel_rfl) (by rfl)
        obtain e73 : (σ 73) = .int .i64 (cL xs ys) := hd 50 (some 73) (by kernel_rfl) (by rfl)
        simp only [List.getElem_toArray, List.getElem_cons_zero, List.getElem_cons_succ, Act.put, List.setIfInBounds_toArray, List.set_cons_zero, List.set_cons_succ, e27, e32, e39, e46, e51, e56, e61, e68, e73] at hK ⊢
        have hnew := heap_alloc_new wx (.cells #[.int .i64 (cI st st'), .int .i64 (cI fi fi'), .int .i64 (cI num num'), .int .i64 (cI den den'), .int .i64 (cI er er'), .int .i64 (cI ru ru'), .int .i64 (cI se se'), .int .i64 (cI (n : Int) (n' : Int)), .int .i64 (cL xs ys)] 3)
        go_simp
        exact hK.out _ _ (Buf.then_ hw (new_block _)) (new_block _) (⟨wx.heap.size, rfl, hnew⟩)
      refine Inv.Steps.go (by decide) (by rfl) (fun σ wx hw hd K hK => ?_) ?_
      · obtain ⟨g, e74, h74⟩ : ∃ g, (σ 74) = .slice (some ⟨g, 0, none⟩) 9 9 ∧ wx.heap[g]? = some (.cells #[.int .i64 (cI st st'), .int .i64 (cI fi fi'), .int .i64 (cI num num'), .int .i64 (cI den den'), .int .i64 (cI er er'), .int .i64 (cI ru ru'), .int .i64 (cI se se'), .int .i64 (cI (n : Int) (n' : Int)), .int .i64 (cL xs ys)] 3 (0, 0)) := hd 51 (some 74) (by kernel_rfl) (by rfl)
        simp only [List.getElem_toArray, List.getElem_cons_zero, List.getElem_cons_succ, Act.put, List.setIfInBounds_toArray, List.set_cons_zero, List.set_cons_succ, e74] at hK ⊢
        go_simp
        go_at_call 40
        refine (or4_any [cI st st', cI fi fi', cI num num', cI den den', cI er er', cI ru ru', cI se se', cI (n : Int) (n' : Int), cL xs ys] 9 rfl (by decide) (fun k x hx => or_at [cI st st', cI fi fi', cI num num', cI den den', cI er er', cI ru ru', cI se se', cI (n : Int) (n' : Int), cL xs ys] h74 k x hx)).mono ?_
        rintro e w1 ⟨rfl, hw1⟩
        replace hw1 := hw1.symm
        subst hw1
        rw [← hr.out]
        dsimp only
        exact hK.out _ _ hw (Below.refl _ _) (rfl)
      exact Inv.Steps.nil
    · intro σ wx hw hd
      obtain e75 : (σ 75) = .int .i64 r := hd 52 (some 75) (by rfl) (by rfl)
      simp only [e75]
      refine Inv.take (i := 53) (v := .int .i64 r) (by decide) rfl (by kernel_rfl) (by kernel_rfl) (by kernel_rfl) (fun _ _ _ h => h) (by rfl) (fun w' => ?_) ?_
      · simp only [List.getElem_toArray, List.getElem_cons_zero, List.getElem_cons_succ]
        go_simp
      try simp only [Act.put, List.setIfInBounds_toArray, List.set_cons_zero, List.set_cons_succ]
      refine Inv.done (by kernel_rfl) (NoPanic.normal ?_)
      go_wp2_with fail
      go_ret
      exact ⟨rfl, Buf.then_ YZ.out hw⟩
  · have e0 : (ct != 0) = true := by simp [h0]
    have hr3 : rr = ct := (by have := hrr.out; rwa [if_neg h0] at this)
    clear hrr
    subst hr3
    go_wp2_with fail
    go_ret
    exact ⟨rfl, YZ.out⟩
end
end Rec
end Go.Proofs.Ytojfnegogdllfaa
