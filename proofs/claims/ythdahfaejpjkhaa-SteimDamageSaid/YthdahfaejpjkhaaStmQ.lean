/- How many words: small differences and large ones. -/
import Derived.Test.YthdahfaejpjkhaaStmP
set_option linter.unusedVariables false
set_option linter.unusedSimpArgs false
namespace Go.Proofs.Ythdahfaejpjkhaa
open Go.RowKit
namespace St
/-- A difference is small or large. -/
def Cl (n : Int) (b : Bool) : Prop := if b then ¬ In 32768 n else In 128 n
inductive Cls : List Int → List Bool → Prop
  | nil : Cls [] []
  | cons {n b d l} : Cl n b → Cls d l → Cls (n :: d) (b :: l)
theorem Cls.length {d : List Int} {l : List Bool} (h : Cls d l) : d.length = l.length := by
  induction h with
  | nil => rfl
  | cons _ _ ih => simp [ih]
theorem cl_small {n : Int} : Cl n false ↔ In 128 n := by simp [Cl]
theorem cl_large {n : Int} : Cl n true ↔ ¬ In 32768 n := by simp [Cl]
theorem small_mid {n : Int} (h : In 128 n) : In 32768 n := by unfold In at *; omega
theorem cd_of (d : List Int) : (Fit d 4 128 → cd d = 1) ∧ (¬ Fit d 4 128 → Fit d 2 32768 → cd d = 2) ∧ (¬ Fit d 4 128 → ¬ Fit d 2 32768 → cd d = 3) := by
  unfold cd
  refine ⟨fun h => if_pos h, fun h h2 => ?_, fun h h2 => ?_⟩
  · rw [if_neg h, if_pos h2]
  · rw [if_neg h, if_neg h2]
/-- The code of a list of classes. -/
def bc : List Bool → Nat
  | false :: false :: false :: false :: _ => 1
  | false :: false :: _ => 2
  | _ => 3
theorem cd_bc {d : List Int} {l : List Bool} (h : Cls d l) : cd d = bc l := by
  obtain ⟨c1, c2, c3⟩ := cd_of d
  have f2 : ∀ {a b : Int} {e : List Int}, Fit (a :: b :: e) 2 32768 ↔ In 32768 a ∧ In 32768 b := by
    intro a b e; simp [Fit]
  have f4 : ∀ {a b c e : Int} {t : List Int}, Fit (a :: b :: c :: e :: t) 4 128 ↔ In 128 a ∧ In 128 b ∧ In 128 c ∧ In 128 e := by
    intro a b c e t; simp [Fit]
  have n2 : ∀ {a : Int}, ¬ Fit [a] 2 32768 := by intro a h; have := h.1; simp at this
  have n2' : ¬ Fit [] 2 32768 := by intro h; have := h.1; simp at this
  have n4 : ∀ {e : List Int}, e.length < 4 → ¬ Fit e 4 128 := by intro e he h; have := h.1; omega
  have s2 : ∀ {a : Int}, In 128 a → In 32768 a := small_mid
  cases h with
  | nil => exact c3 (n4 (by decide)) n2'
  | @cons a p d l ha h =>
    cases h with
    | nil => rw [c3 (n4 (by simp)) n2]; cases p <;> rfl
    | @cons b q d l hb h =>
      cases p with
      | true =>
        rw [cl_large] at ha
        rw [c3 (fun hf => ha (s2 (hf.2 a (by simp)))) (fun hf => ha (hf.2 a (by simp)))]; rfl
      | false =>
        cases q with
        | true =>
          rw [cl_large] at hb
          rw [c3 (fun hf => hb (s2 (hf.2 b (by simp)))) (fun hf => hb (hf.2 b (by simp)))]; rfl
        | false =>
          rw [cl_small] at ha hb
          have g2 := f2 (e := d) |>.2 ⟨s2 ha, s2 hb⟩
          cases h with
          | nil => rw [c2 (n4 (by simp)) g2]; rfl
          | @cons c r d l hc h =>
            cases h with
            | nil => rw [c2 (n4 (by simp)) g2]; cases r <;> rfl
            | @cons e s d l he h =>
              cases r with
              | true =>
                rw [cl_large] at hc
                rw [c2 (fun hf => hc (s2 (hf.2 c (by simp)))) g2]; cases s <;> rfl
              | false =>
                cases s with
                | true =>
                  rw [cl_large] at he
                  rw [c2 (fun hf => he (s2 (hf.2 e (by simp)))) g2]; rfl
                | false =>
                  rw [cl_small] at hc he
                  rw [c1 (f4.2 ⟨ha, hb, hc, he⟩)]; rfl
/-- The words of small differences (false) and large ones (true). -/
def wl : Nat → List Bool → Nat
  | 0, _ => 0
  | _ + 1, [] => 0
  | f + 1, b :: l => 1 + wl f ((b :: l).drop (cnt (bc (b :: l))))
theorem wl_step (f : Nat) (b : Bool) (l : List Bool) : wl (f + 1) (b :: l) = 1 + wl f ((b :: l).drop (cnt (bc (b :: l)))) := rfl
theorem Cls.drop {d : List Int} {l : List Bool} (h : Cls d l) : ∀ k, Cls (d.drop k) (l.drop k) := by
  induction h with
  | nil => intro k; simpa using Cls.nil
  | cons h1 h2 ih =>
    intro k
    cases k with
    | zero => exact .cons h1 h2
    | succ k => simpa using ih k
theorem wds_wl : ∀ (f : Nat) (d : List Int) (l : List Bool), Cls d l → d.length ≤ f → (wds d).length = wl f l
  | 0, d, l, h, hf => by
    have : d = [] := List.eq_nil_of_length_eq_zero (by omega)
    subst this; cases h; rfl
  | f + 1, d, l, h, hf => by
    have hb := cd_bc h
    cases h with
    | nil => rfl
    | @cons n b d l h1 h2 =>
      have c := (cnt_rng (n :: d)).1
      rw [wds_step _ (by simp), List.length_cons, wl_step, wds_wl f _ _ ((Cls.cons h1 h2).drop (cnt (cd (n :: d)))) (by rw [List.length_drop]; simp only [List.length_cons] at hf ⊢; omega), hb]
      omega
theorem cls_of : ∀ (d : List Int) (l : List Bool), d.length = l.length → (∀ k, k < d.length → Cl (d.getD k 0) (l.getD k false)) → Cls d l
  | [], [], _, _ => .nil
  | [], _ :: _, h, _ => by simp at h
  | _ :: _, [], h, _ => by simp at h
  | n :: d, b :: l, h, hk => .cons (by simpa using hk 0 (by simp)) (cls_of d l (by simpa using h) fun k hl => by
      have := hk (k + 1) (by simpa using hl)
      simpa using this)
/-- The samples of the statement. -/
def sx : Nat → Int
  | 0 => 0
  | i + 1 => sx i + (((i + 1) % 5 : Nat) : Int) - 2
def ys (n j : Nat) (c : Int) : List Int := (List.range n).map fun i => sx i + if j < i then c else 0
def xs (n : Nat) : List Int := (List.range n).map sx
def ls (n j : Nat) : List Bool := (List.range n).map fun i => decide (i = j + 1)
theorem ys_length (n j : Nat) (c : Int) : (ys n j c).length = n := by simp [ys]
theorem xs_length (n : Nat) : (xs n).length = n := by simp [xs]
theorem ls_length (n j : Nat) : (ls n j).length = n := by simp [ls]
theorem sx_in (i : Nat) : -2 * (i : Int) ≤ sx i ∧ sx i ≤ 2 * (i : Int) := by
  induction i with
  | zero => decide
  | succ i ih =>
    have : (i + 1) % 5 < 5 := Nat.mod_lt _ (by decide)
    simp only [sx]
    omega
theorem xs_succ (n : Nat) : xs (n + 1) = xs n ++ [sx n] := by simp [xs, List.range_succ]
theorem xs_get (n i : Nat) (h : i < n) : (xs n).getD i 0 = sx i := by
  simp [xs, List.getD_eq_getElem?_getD, h]
theorem ys_get (n j : Nat) (c : Int) (i : Nat) (h : i < n) : (ys n j c).getD i 0 = sx i + if j < i then c else 0 := by
  simp [ys, List.getD_eq_getElem?_getD, h]
theorem xs_ys (n j : Nat) (c : Int) (h : n ≤ j + 1) : ys n j c = xs n := by
  unfold ys xs
  refine List.map_congr_left fun i hi => ?_
  rw [List.mem_range] at hi
  rw [if_neg (by omega), Int.add_zero]
theorem cls_ys (n j : Nat) (c : Int) (c0 : 1000000 ≤ c) : Cls (df (ys n j c)) (ls n j) := by
  refine cls_of _ _ (by rw [df_length, ys_length, ls_length]) fun k hk => ?_
  rw [df_length, ys_length] at hk
  rw [List.getD_eq_getElem?_getD, df_get _ k (by rw [ys_length]; exact hk), Option.getD_some, ys_get _ _ _ _ hk]
  have e : (ls n j).getD k false = decide (k = j + 1) := by simp [ls, List.getD_eq_getElem?_getD, hk]
  rw [e]
  cases k with
  | zero => simp [Cl, In]
  | succ k =>
    have h5 : (k + 1) % 5 < 5 := Nat.mod_lt _ (by decide)
    rw [if_neg (by omega), Nat.add_sub_cancel, ys_get _ _ _ _ (by omega)]
    simp only [sx]
    by_cases h : k = j
    · subst h
      rw [if_pos (by omega), if_neg (by omega), decide_eq_true rfl, cl_large]
      unfold In; omega
    · rw [decide_eq_false (by omega), cl_small]
      unfold In
      split <;> split <;> omega
theorem wl_xs : ∀ n, n ≤ 60 → wl n (ls n n) = n / 4 + n % 4 / 2 + n % 2 := by decide +kernel
theorem wl_ys : ∀ n, n ≤ 60 → ∀ j, j < n → j + 1 < n → n / 4 < wl n (ls n j) ∧ wl n (ls n j) ≤ n / 4 + n % 4 / 2 + n % 2 + 3 := by decide +kernel
theorem words_xs (n : Nat) (hn : n ≤ 60) : (wds (df (xs n))).length = n / 4 + n % 4 / 2 + n % 2 := by
  rw [← xs_ys n n 1000000 (by omega), wds_wl n _ _ (cls_ys n n 1000000 (by omega)) (by rw [df_length, ys_length]; omega), wl_xs n hn]
theorem words_ys (n j : Nat) (c : Int) (c0 : 1000000 ≤ c) (hn : n ≤ 60) (h : j + 1 < n) : n / 4 < (wds (df (ys n j c))).length ∧ (wds (df (ys n j c))).length ≤ n / 4 + n % 4 / 2 + n % 2 + 3 := by
  rw [wds_wl n _ _ (cls_ys n j c c0) (by rw [df_length, ys_length]; omega)]
  exact wl_ys n hn j (by omega) h
theorem inS_ys (n j : Nat) (c : Int) (hn : n ≤ 60) (c0 : 0 ≤ c) (c1 : c ≤ 1000255) : InS (ys n j c) := by
  intro z hz
  unfold ys at hz
  obtain ⟨i, hi, rfl⟩ := List.mem_map.1 hz
  rw [List.mem_range] at hi
  have := sx_in i
  split <;> omega
theorem fo_le (L : List Int) (h : L.length ≤ 100) : fo (wds (df L)).length ≤ 8 := by
  have := (wds_len (df L)).1
  rw [df_length] at this
  unfold fo; omega
end St
end Go.Proofs.Ythdahfaejpjkhaa
