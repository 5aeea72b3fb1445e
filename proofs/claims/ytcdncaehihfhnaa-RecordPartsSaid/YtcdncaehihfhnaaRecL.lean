/- For RecordParts. -/
import Derived.Test.YtcdncaehihfhnaaRecK
set_option linter.unusedVariables false
set_option linter.unusedSimpArgs false
namespace Go.Proofs.Ytcdncaehihfhnaa
open Go.RowKit
namespace Rec
open Dice
section
variable {s0 s1 s2 s3 : List UInt8} {st fi num den er ru se : Int}
theorem sub_zero (P : RP s0 s1 s2 s3 st fi num den er ru se) {b n c : Nat} {xs : List Int} {w : World} (X : RX w b n c xs) (m : Nat) (hk : 0 < m) (hm : m ≤ n) :
    Calls Try.prog 11 #[.agg #[.string ⟨s0.toArray⟩, .string ⟨s1.toArray⟩, .string ⟨s2.toArray⟩, .string ⟨s3.toArray⟩, .int .i64 st, .int .i64 fi, .int .i64 num, .int .i64 den, .int .i64 er, .int .i64 ru, .int .i64 se, .slice (some ⟨b, 0, none⟩) n c], .int .i64 0, .int .i64 (m : Int)] w fun e w' => (∃ g c2, e = .returned (.tuple #[.agg #[.string ⟨s0.toArray⟩, .string ⟨s1.toArray⟩, .string ⟨s2.toArray⟩, .string ⟨s3.toArray⟩, .int .i64 st, .int .i64 fi, .int .i64 num, .int .i64 den, .int .i64 er, .int .i64 ru, .int .i64 se, .slice (some ⟨g, 0, none⟩) m c2], .int .i64 0]) ∧ RX w' g m c2 (cutl xs 0 m) ∧ w.heap.size < g) ∧ Below w.heap.size w w' := by
  have := sub_any P X 0 m hk hm
  rw [show fi + ((0 : Nat) : Int) = fi by simp, Nat.sub_zero] at this
  exact this
theorem tm_add (K j : Int) : tm st (fi + K) num den j = tm st fi num den (K + j) := by unfold tm; rw [Int.add_assoc]
theorem RP.more (P : RP s0 s1 s2 s3 st fi num den er ru se) (K : Int) (k0 : 0 ≤ K) (h : fi + K ≤ 1000) : RP s0 s1 s2 s3 st (fi + K) num den er ru se :=
  ⟨P.src, P.st0, P.st9, by have := P.fi0; omega, h, P.rv, P.er0, P.er9, P.ru0, P.ru9, P.se0, P.se9⟩
end
theorem mod_k (x n : Int) (x0 : 0 ≤ x) (n1 : 1 ≤ n) : ∃ K : Nat, (K : Int) = 1 + x % n ∧ 1 ≤ K ∧ (K : Int) ≤ n := by
  have h0 := Int.emod_nonneg x (show n ≠ 0 by omega)
  have h1 := Int.emod_lt_of_pos x (show 0 < n by omega)
  exact ⟨(1 + x % n).toNat, by omega, by omega, by omega⟩
end Rec
end Go.Proofs.Ytcdncaehihfhnaa
