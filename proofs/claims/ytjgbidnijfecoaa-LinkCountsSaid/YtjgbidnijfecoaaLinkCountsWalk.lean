/- The walk of LinkCounts. -/
import Derived.Test.YtjgbidnijfecoaaLnkN
import Derived.Carry
set_option linter.unusedVariables false
set_option linter.unusedSimpArgs false
namespace Go.Proofs.Ytjgbidnijfecoaa
open Go.RowKit Wi Dice
namespace Laws
open Lnk
set_option maxHeartbeats 8000000 in
set_option maxRecDepth 100000 in
theorem linkCounts_walk (a0 : Option Addr) (len0 cap0 : Nat) (z0 : List Int) (w : World) (w0 : Buf.IsRow .i64 w a0 len0 cap0 z0) :
    Calls Try.prog 4 #[.slice a0 len0 cap0] w fun e w' => e = .returned (.bool true) ∧ Below w.heap.size w w' := by
  by_cases hs : len0 ≤ 500
  · have hd : decide ((len0 : Int) ≤ 500) = true := by simp; omega
    go_enter Try.func4, Try.ntmps4
    go_wp2_with (first | (go_at_call 6; refine (light_any _ _ _ _).mono ?_; rintro e w1 ⟨rfl, rfl⟩; rw [hd]) | (go_at_call 8; refine (roll_any a0 len0 cap0 z0 _ w0 hs).mono ?_; rintro e w2 ⟨rfl, hdi⟩))
    have L0 := Lib.hid (Dice.Left.refl hdi)
    have H := Lib.hid hdi
    have hlt := hdi.lt
    clear hdi
    refine (Lnk.new_any _).mono ?_
    rintro e w3 ⟨rfl, hb3⟩
    replace L0 := Lib.hid (L0.out.below hb3)
    have z3 := hb3.size
    clear hb3
    have C0 := Lib.hid (show LC w1 w2 w1.heap.size a0 len0 cap0 z0 w3.heap.size (w3.heap.size + 1) 0 0 (.slice none 0 0) [] 0 (fun _ => 0) ((w3.alloc (.cells #[.int .i64 0, .int .i64 0, .slice none 0 0] 29)).alloc (.map #[] 0)) from
      ⟨H.out, World.ownsRow_nil _ _ _ _, (heap_alloc_old _ _ (by simp)).trans (heap_alloc_new w3 _), by have h := MapI.made (w3.alloc (.cells #[.int .i64 0, .int .i64 0, .slice none 0 0] 29)); rw [World.size_alloc] at h; exact h, (L0.out.below (new_block _)).below (new_block _), z3, by omega⟩)
    have N0 : Hid (LN 0 0 0 [] 0 (fun _ => 0) 0 0) := Lib.hid ⟨⟨by omega, by omega, by omega, by omega, by simp, fun k p hp => by simp at hp, fun k p q hp hq => by simp at hp⟩, by omega, by simp, by omega, by simp, fun t ht => rfl, rfl, by omega, by omega⟩
    have MM : ∀ w : World, (Instr.makeMap 42 none).run Try.prog w = .ok (.map (some w.heap.size)) (w.alloc (.map #[] 0)) := run_makeMap _
    have zm : (w3.alloc (.cells #[.int .i64 0, .int .i64 0, .slice none 0 0] 29)).heap.size = w3.heap.size + 1 := by simp
    go_upto_region 7 with fail
    clear MM zm
    generalize (w3.alloc (.cells #[.int .i64 0, .int .i64 0, .slice none 0 0] 29)).alloc (.map #[] 0) = w4 at *
    generalize w3.heap.size + 1 = bm at *
    generalize w3.heap.size = b4 at *
    clear L0 z3
    go_wp2_with fail
    go_loopw [8, 6, 7] (fun i tt gg wr => ∃ (j : Nat) (ord : Int) (r : Value) (L : List T3) (n : Nat) (f : Int → Int) (tot got : Int), j ≤ 30 ∧ i = .int .i64 (j : Int) ∧ tt = .int .i64 tot ∧ gg = .int .i64 got ∧ Hid (LC w1 w2 w1.heap.size a0 len0 cap0 z0 b4 bm (j : Int) ord r L n f wr) ∧ Hid (LN j j ord L n f tot got)) (fun i _ _ _ => (30 - intOf i).toNat)
    case atStart => exact ⟨0, 0, _, [], 0, _, 0, 0, by omega, rfl, rfl, rfl, C0, N0⟩
    case round =>
      clear C0 N0
      obtain ⟨j, ord, r, L, n, f, tot, got, hj, rfl, rfl, rfl, C, N⟩ := hrel
      by_cases hj30 : j < 30
      · have hj30' : (j : Int) < 30 := by omega
        obtain ⟨wo, rfl⟩ : ∃ wo : World, wo = wr := ⟨_, rfl⟩
        go_upto_region 10 with fail
        go_cut [38] from 28 to 119 (fun s38 wx => ∃ (bb : Bool) (wy : World), wy = wx ∧ s38 = .bool bb ∧ (bb = true → j < 14) ∧ Hid (LC w1 w2 w1.heap.size a0 len0 cap0 z0 b4 bm (j : Int) ord r L n f wy))
        case first =>
          by_cases j14 : j < 14
          · have j14' : (j : Int) < 14 := by omega
            go_wp2_with fail
            refine (next_any 2 C.out.left.di (by omega) (by omega)).mono ?_
            rintro e w5 ⟨⟨v, rfl, v0, v1⟩, hl⟩
            replace C := Lib.hid (C.out.roll hl)
            clear hl
            go_wp2_with fail
            go_meet
            exact ⟨_, _, rfl, rfl, fun _ => j14, C⟩
          · have j14' : ¬ ((j : Int) < 14) := by omega
            go_wp2_with fail
            go_meet
            exact ⟨_, _, rfl, rfl, fun h => (by cases h), C⟩
        case rest =>
          rename_i hKK
          refine hKK _ _ ?_
          clear hKK
          clear C
          obtain ⟨bb, wy, ewy, rfl, hb14, C⟩ := hcut
          subst ewy
          go_cut [6, 9, 10, 11, 12] from 28 to 119 (fun s6 s9 s10 s11 s12 wx => ∃ (ord : Int) (r : Value) (L : List T3) (n : Nat) (f : Int → Int) (tot : Int), s6 = .int .i64 tot ∧ Hid (LC w1 w2 w1.heap.size a0 len0 cap0 z0 b4 bm (j : Int) ord r L n f wx) ∧ Hid (LN j (j + 1) ord L n f tot got))
          case first =>
            cases bb
            · go_wp2_with fail
              go_meet
              exact ⟨ord, r, L, n, f, tot, rfl, C, Lib.hid N.out.mono⟩
            · have j14 : j < 14 := hb14 rfl
              have j14' : (j : Int) < 14 := by omega
              go_wp2_with fail
              refine (fault_any C.out.left.di).mono ?_
              rintro e w6 ⟨⟨bb, dl, cp, rfl, d0, d5, c0, c2⟩, hl⟩
              replace C := Lib.hid (C.out.roll hl)
              clear hl
              have F6 := Lib.hid (heap_alloc_new w6 (.cells #[.bool bb, .int .i64 dl, .int .i64 cp] 32))
              replace C := Lib.hid (C.out.below (new_block (.cells #[.bool bb, .int .i64 dl, .int .i64 cp] 32)))
              go_upto_region 12 with fail
              generalize w6.alloc (.cells #[.bool bb, .int .i64 dl, .int .i64 cp] 32) = w7 at *
              generalize w6.heap.size = b9 at *
              obtain ⟨q, hq, hq3⟩ : ∃ q : Nat, (q : Int) = (if bb then 0 else 1 + cp) ∧ q ≤ 3 := by
                cases bb
                · exact ⟨(1 + cp).toNat, by simp; omega, by omega⟩
                · exact ⟨0, by simp, by omega⟩
              obtain ⟨k0, k1, k2⟩ := C.out.cells
              obtain ⟨l0, l1, l2⟩ := c3 F6.out
              have ho := N.out.ordj
              have hl := N.out.len
              have SE := Lib.hid (send_any (j : Int) ord dl cp ⟨#[109]⟩ bb q hq N.out.good (its_of_own C.out.own) d0 (by omega) c0 (by omega) (by decide) (by omega) (by omega) (by omega))
              obtain ⟨ra, rm, rc, rfl, hrm⟩ := own_letter C.out.own
              go_wp2_with fail
              refine SE.out.mono ?_
              rintro e w8 ⟨⟨r8, rfl, o8⟩, hb8⟩
              have zz := C.out.left.far.size
              replace o8 := own_mono o8 (B' := w2.heap.size) (by omega)
              replace C := Lib.hid (C.out.below hb8)
              replace F6 := Lib.hid (hb hb8 F6.out)
              clear hb8 k0 k1 k2 l0 l1 l2 SE hrm
              obtain ⟨r8a, r8m, r8c, rfl, h8⟩ := own_letter o8
              replace o8 := Lib.hid o8
              have N8 := Lib.hid (heap_alloc_new w8 (.cells #[.int .i64 (j : Int), .int .i64 (ord + 1), .slice r8a r8m r8c] 29))
              have Y8 : Hid (Below w8.heap.size w8 (w8.alloc (.cells #[.int .i64 (j : Int), .int .i64 (ord + 1), .slice r8a r8m r8c] 29))) := Lib.hid (new_block _)
              replace o8 := Lib.hid (own_below o8.out Y8.out)
              replace C := Lib.hid (C.out.below Y8.out)
              replace F6 := Lib.hid (hb Y8.out F6.out)
              go_upto_region 15 with fail
              clear Y8
              generalize w8.alloc (.cells #[.int .i64 (j : Int), .int .i64 (ord + 1), .slice r8a r8m r8c] 29) = w9 at *
              generalize w8.heap.size = b10 at *
              obtain ⟨k0, k1, k2⟩ := C.out.cells
              obtain ⟨j0, j1, j2⟩ := C.out.fr
              obtain ⟨n0, n1, n2⟩ := c3 N8.out
              have C9 := Lib.hid (C.out.store (now' := (j : Int)) (ord' := ord + 1) o8.out)
              have h94 : b9 ≠ b4 := fun e => by
                have h1 := F6.out
                rw [e, C.out.wire] at h1
                simp at h1
              have F9 := Lib.hid (st_far3 F6.out h94 (.int .i64 (j : Int)) (.int .i64 (ord + 1)) (.slice r8a r8m r8c))
              go_upto_region 16 with fail
              clear k0 k1 k2 j0 j1 j2 n0 n1 n2 C F6 N8 o8
              generalize ((w9.setCell ⟨b4, 0, none⟩ (.int .i64 (j : Int))).setCell ⟨b4, 1, none⟩ (.int .i64 (ord + 1))).setCell ⟨b4, 2, none⟩ (.slice r8a r8m r8c) = wA at *
              go_wp2_with fail
              have hnn := N.out.nn
              have htg := Lib.hid N.out.sum
              have ht9 := N.out.g9
              have ht0 : 0 ≤ tot := by have := N.out.sum; have := N.out.g0; omega
              have hg0 := N.out.g0
              obtain ⟨wo, hwo⟩ : ∃ wo : World, wo = wA := ⟨_, rfl⟩
              have hbm : b9 ≠ bm := fun e => by
                obtain ⟨es, ck, h1⟩ := C9.out.mapblk
                have h2 := F9.out
                rw [e, h1] at h2
                cases h2
              go_loopw [12, 6] (fun i tt wr => ∃ (k n2 : Nat) (f2 : Int → Int), i = .int .i64 (k : Int) ∧ k ≤ q ∧ tt = .int .i64 (tot + (k : Int)) ∧ n2 ≤ n + k ∧ Hid (∀ t, f2 t = f t + (cnt t (news ((j : Int) + 1 + dl) ord ⟨#[109]⟩ k) : Nat)) ∧ Hid (LC w1 w2 w1.heap.size a0 len0 cap0 z0 b4 bm (j : Int) (ord + 1) (.slice r8a r8m r8c) (insN ((j : Int) + 1 + dl) ord ⟨#[109]⟩ L q) n2 f2 wr) ∧ Hid (wr.heap[b9]? = some (.cells #[.bool bb, .int .i64 dl, .int .i64 cp] 32 (0, 0)))) (fun i _ _ => (4 - intOf i).toNat)
              case atStart => exact ⟨0, n, f, rfl, Nat.zero_le _, by simp, Nat.le_refl _, Lib.hid fun t => by simp [news, cnt], C9, F9⟩
              case round =>
                clear C9 F9
                obtain ⟨k, n2, f2, rfl, hk, rfl, hn2, hf2, C9, F9⟩ := hrel
                obtain ⟨l0, l1, l2⟩ := c3 F9.out
                by_cases hkq : k < q
                · have hbb : bb = false := by
                    cases bb
                    · rfl
                    · simp at hq; omega
                  subst hbb
                  simp only [Bool.false_eq_true, if_false] at hq
                  have hkc : (k : Int) ≤ cp := by omega
                  have hc0 : 0 ≤ f2 ((j : Int) + 1 + dl + (k : Int)) ∧ f2 ((j : Int) + 1 + dl + (k : Int)) ≤ 1000 := by
                    rw [hf2.out]
                    have h1 := N.out.small ((j : Int) + 1 + dl + (k : Int)) (by omega)
                    have h2 : cnt ((j : Int) + 1 + dl + (k : Int)) (news ((j : Int) + 1 + dl) ord ⟨#[109]⟩ k) ≤ k := by
                      have h3 : cnt ((j : Int) + 1 + dl + (k : Int)) (news ((j : Int) + 1 + dl) ord ⟨#[109]⟩ k) ≤ (news ((j : Int) + 1 + dl) ord ⟨#[109]⟩ k).length := List.countP_le_length
                      rwa [news_len] at h3
                    omega
                  obtain ⟨key, hkey⟩ : ∃ key, key = (j : Int) + 1 + dl + (k : Int) := ⟨_, rfl⟩
                  rw [← hkey] at hc0
                  have hk1 : key ≤ 100 := by omega
                  have hk0 : 0 ≤ key := by omega
                  have LK := C9.out.map.lookup key (wf_small (by omega) (by omega))
                  obtain ⟨c, hc⟩ : ∃ c, c = f2 key := ⟨_, rfl⟩
                  rw [← hc] at LK hc0
                  obtain ⟨c0', c9'⟩ := hc0
                  rw [hkey] at LK
                  replace hkey := Lib.hid hkey
                  replace hc := Lib.hid hc
                  go_wp2_with (at_mapUpdate; refine wpList_put rfl (.tmp 61) (.tmp 68) (.tmp 70) rfl bm n2 f2 rfl C9.out.map (by omega) ((j : Int) + 1 + dl + (k : Int)) (c + 1) rfl rfl (wf_small (by omega) (by omega)) (wf_small (by omega) (by omega)) ?_; intro wB MB GB)
                  have hf3 : Hid (∀ t, (if t = (j : Int) + 1 + dl + (k : Int) then c + 1 else f2 t) = f t + (cnt t (news ((j : Int) + 1 + dl) ord ⟨#[109]⟩ (k + 1)) : Nat)) := Lib.hid fun t => by
                    rw [cnt_news]
                    by_cases e : t = (j : Int) + 1 + dl + (k : Int)
                    · rw [if_pos e, if_pos e, hc.out, hkey.out, ← e, hf2.out]; omega
                    · rw [if_neg e, if_neg e, hf2.out]; omega
                  have CB := Lib.hid (C9.out.put MB.out GB.out)
                  have FB := Lib.hid ((GB.out.block b9 (Array.getElem?_eq_some_iff.1 F9.out).1 (fun e => hbm (by injection e))).trans F9.out)
                  exact ⟨⟨k + 1, n2 + 1, _, by go_num, by omega, by go_num, by omega, hf3, CB, FB⟩, by simp [intOf]; omega⟩
                · obtain rfl : k = q := by omega
                  cases bb
                  · simp only [Bool.false_eq_true, if_false] at hq
                    have hkc : ¬ ((k : Int) ≤ cp) := by omega
                    go_wp2_with fail
                    go_meet
                    exact ⟨ord + 1, _, _, n2, f2, tot + (k : Int), congrArg (Value.int .i64) (by omega), C9, Lib.hid (N.out.send j14 (by omega) ⟨#[109]⟩ (by decide) d0 d5 hq3 hn2 hf2.out)⟩
                  · obtain rfl : k = 0 := by simp at hq; omega
                    go_wp2_with fail
                    go_meet
                    exact ⟨ord + 1, _, _, n2, f2, tot + ((0 : Nat) : Int), congrArg (Value.int .i64) (by omega), C9, Lib.hid (N.out.send j14 (by omega) ⟨#[109]⟩ (by decide) d0 d5 hq3 hn2 hf2.out)⟩
          case rest =>
            clear C N hb14
            obtain ⟨ord, r, L, n, f, tot, rfl, C, N⟩ := hcut
            have ho := N.out.ordj
            have hlen := N.out.len
            have hnn := N.out.nn
            have g0 := N.out.g0
            have g9 := N.out.g9
            have hgt : got ≤ tot := by have := N.out.sum; omega
            obtain ⟨ra, rm, rc, rfl, hrm⟩ := own_letter C.out.own
            obtain ⟨t, ht⟩ : ∃ t : Int, t = (L.head?.map (·.1)).getD 0 := ⟨_, rfl⟩
            have NX := Lib.hid (next_tick (j : Int) ord (its_of_own C.out.own) t (fun p hp => by
              cases L with
              | nil => simp at hp
              | cons q M => simp at hp; subst hp; rw [ht]; rfl) (fun p hp => by
              cases L with
              | nil => simp at hp
              | cons q M =>
                have e : t = q.1 := by rw [ht]; rfl
                rcases List.mem_cons.1 hp with rfl | hp
                · omega
                · have := (List.pairwise_cons.1 N.out.good.pw).1 p hp
                  unfold ls at this; omega) (fun e => by rw [ht, e]; rfl) (by omega))
            have LK := C.out.map.lookup ((j : Int) + 1) (wf_small (by omega) (by omega))
            rw [N.out.cnt _ (Int.le_refl _), ← due_cnt N.out.good] at LK
            obtain ⟨d, hdd⟩ : ∃ d, d = Lnk.due ((j : Int) + 1) L := ⟨_, rfl⟩
            have hdl : d ≤ L.length := by rw [hdd]; exact Lnk.due_le _ _
            rw [← hdd] at LK
            -- what arrives and what Next said agree
            have AG : (decide (0 < L.length) = false ∧ d = 0) ∨ (decide (0 < L.length) = true ∧ ((t = (j : Int) + 1 ∧ 0 < d) ∨ (¬ t = (j : Int) + 1 ∧ d = 0))) := by
              cases L with
              | nil => left; exact ⟨rfl, by rw [hdd]; rfl⟩
              | cons q M =>
                right
                refine ⟨rfl, ?_⟩
                have e : t = q.1 := by rw [ht]; rfl
                have := due_pos (t := (j : Int) + 1) (p := q) (L := M)
                rw [← hdd] at this
                by_cases h : q.1 = (j : Int) + 1
                · left; exact ⟨by omega, this.2 h⟩
                · right; exact ⟨by omega, by have h2 := fun h1 => h (this.1 h1); omega⟩
            obtain ⟨ok, hok⟩ : ∃ ok, ok = decide (0 < L.length) := ⟨_, rfl⟩
            rw [← hok] at AG NX
            replace hok := Lib.hid hok
            replace ht := Lib.hid ht
            replace hdd := Lib.hid hdd
            obtain ⟨k0, k1, k2⟩ := C.out.cells
            go_wp2_with fail
            refine NX.out.mono ?_
            rintro e w5 ⟨rfl, hb5⟩
            replace C := Lib.hid (C.out.below hb5)
            clear k0 k1 k2 hb5 LK
            obtain ⟨k0, k1, k2⟩ := C.out.cells
            have T := Lib.hid (tick_any (j : Int) ord N.out.good (its_of_own C.out.own) (by omega) (by omega))
            rw [← hdd.out] at T
            go_wp2_with fail
            refine T.out.mono ?_
            rintro e w6 ⟨⟨r6, l6, rfl, o6, s6⟩, hb6⟩
            have zz := C.out.left.far.size
            replace C := Lib.hid (C.out.below hb6)
            obtain ⟨r6a, r6m, r6c, rfl, h6⟩ := own_letter o6
            obtain ⟨l6a, l6m, l6c, rfl, h6'⟩ := own_letter s6
            obtain rfl : l6m = d := by rw [h6'.out]; simp [dat]; omega
            replace o6 := Lib.hid (own_mono o6 (B' := w2.heap.size) (by omega))
            clear k0 k1 k2 T hb6 s6 h6' hrm
            have N8 := Lib.hid (heap_alloc_new w6 (.cells #[.int .i64 ((j : Int) + 1), .int .i64 ord, .slice r6a r6m r6c] 29))
            have Y8 : Hid (Below w6.heap.size w6 (w6.alloc (.cells #[.int .i64 ((j : Int) + 1), .int .i64 ord, .slice r6a r6m r6c] 29))) := Lib.hid (new_block _)
            replace o6 := Lib.hid (own_below o6.out Y8.out)
            replace C := Lib.hid (C.out.below Y8.out)
            go_upto_region 23 with fail
            clear Y8
            generalize w6.alloc (.cells #[.int .i64 ((j : Int) + 1), .int .i64 ord, .slice r6a r6m r6c] 29) = w7 at *
            generalize w6.heap.size = b10 at *
            obtain ⟨k0, k1, k2⟩ := C.out.cells
            obtain ⟨j0, j1, j2⟩ := C.out.fr
            obtain ⟨n0, n1, n2⟩ := c3 N8.out
            have LK := C.out.map.lookup ((j : Int) + 1) (wf_small (by omega) (by omega))
            rw [N.out.cnt _ (Int.le_refl _), ← due_cnt N.out.good, ← hdd.out] at LK
            have C9 := Lib.hid (C.out.store (now' := (j : Int) + 1) (ord' := ord) o6.out)
            have NT := Lib.hid (N.out.tick hj30)
            rw [← hdd.out] at NT
            have eJ : ((j + 1 : Nat) : Int) = (j : Int) + 1 := by omega
            have FIN := Lib.hid C9.out
            rw [← eJ] at FIN
            replace eJ := Lib.hid eJ
            clear C9 C N o6 hdd NX
            rcases AG with ⟨rfl, rfl⟩ | ⟨rfl, ⟨rfl, hd0⟩ | ⟨hne, rfl⟩⟩
            all_goals
              try rw [show got + ((0 : Nat) : Int) = got by omega] at NT
              go_wp2_with fail
              go_roundw
              case rel => exact ⟨j + 1, ord, _, _, n, f, tot, _, by omega, by go_num, rfl, rfl, FIN, NT⟩
              case measure => simp [intOf]; omega
      · obtain rfl : j = 30 := by omega
        have hL : L = [] := by
          cases L with
          | nil => rfl
          | cons q M =>
            have h1 := N.out.far q (List.mem_cons_self ..)
            have h2 := N.out.good.ge q (List.mem_cons_self ..)
            omega
        subst hL
        have hsum : tot = got := by have := N.out.sum; simpa using this
        subst hsum
        obtain ⟨k0, k1, k2⟩ := C.out.cells
        obtain ⟨ra, rm, rc, rfl, hrm⟩ := own_letter C.out.own
        have DR := Lib.hid (drain_any _ ord N.out.good (its_of_own C.out.own))
        have BW := Lib.hid C.out.left.di.bel
        clear N C
        go_wp2_with fail
        refine DR.out.mono ?_
        rintro e w5 ⟨⟨r5, rfl, o5⟩, hb5⟩
        obtain ⟨xa, xm, xc, rfl, hxm⟩ := own_letter o5
        obtain rfl : xm = 0 := hxm.out
        clear k0 k1 k2 o5
        go_wp2_with (go_at_call 7; refine (Lnk.sane_any _).mono ?_; rintro e w9 ⟨rfl, hb9⟩)
        go_ret
        exact ⟨rfl, Buf.then_ BW.out (Buf.then_ hb5 hb9)⟩
  · have hd : decide ((len0 : Int) ≤ 500) = false := by simp; omega
    go_enter Try.func4, Try.ntmps4
    go_wp2_with (first | (go_at_call 6; refine (light_any _ _ _ _).mono ?_; rintro e w1 ⟨rfl, rfl⟩; rw [hd]) | (go_at_call 7; refine (Lnk.sane_any _).mono ?_; rintro e w2 ⟨rfl, hb⟩))
    go_ret
    exact ⟨rfl, hb⟩
end Laws
end Go.Proofs.Ytjgbidnijfecoaa
