/- The points of a box. -/
import Derived.Test.YtldgihlhioeipaaGeoN
namespace Go.Proofs.Ytldgihlhioeipaa
open Go.RowKit
namespace Geo
def Hs (x y c : Int) (k : Nat) : List (Int × Int × Int) := (List.range k).map fun (i : Nat) => (x, y, c + (i : Int))
def Gs (x b c : Int) (Z : Nat) (j : Nat) : List (Int × Int × Int) := (List.range j).flatMap fun (i : Nat) => Hs x (b + (i : Int)) c Z
def Fs (a b c : Int) (Y Z : Nat) (i : Nat) : List (Int × Int × Int) := (List.range i).flatMap fun (t : Nat) => Gs (a + (t : Int)) b c Z Y
theorem Hs_succ (x y c : Int) (k : Nat) : Hs x y c (k + 1) = Hs x y c k ++ [(x, y, c + (k : Int))] := by simp [Hs, List.range_succ]
theorem Gs_succ (x b c : Int) (Z j : Nat) : Gs x b c Z (j + 1) = Gs x b c Z j ++ Hs x (b + (j : Int)) c Z := by simp [Gs, List.range_succ]
theorem Fs_succ (a b c : Int) (Y Z i : Nat) : Fs a b c Y Z (i + 1) = Fs a b c Y Z i ++ Gs (a + (i : Int)) b c Z Y := by simp [Fs, List.range_succ]
theorem Hs_length (x y c : Int) (k : Nat) : (Hs x y c k).length = k := by simp [Hs]
theorem Gs_length (x b c : Int) (Z j : Nat) : (Gs x b c Z j).length = j * Z := by
  induction j with
  | zero => simp [Gs]
  | succ j ih => rw [Gs_succ, List.length_append, ih, Hs_length, Nat.add_mul, Nat.one_mul]
theorem Fs_length (a b c : Int) (Y Z i : Nat) : (Fs a b c Y Z i).length = i * (Y * Z) := by
  induction i with
  | zero => simp [Fs]
  | succ i ih => rw [Fs_succ, List.length_append, ih, Gs_length, Nat.add_mul, Nat.one_mul]
theorem Fs_mem {a b c : Int} {Y Z i : Nat} {p : Int × Int × Int} : p ∈ Fs a b c Y Z i ↔ (a ≤ p.1 ∧ p.1 < a + i) ∧ (b ≤ p.2.1 ∧ p.2.1 < b + Y) ∧ (c ≤ p.2.2 ∧ p.2.2 < c + Z) := by
  obtain ⟨x, y, z⟩ := p
  simp only [Fs, Gs, Hs, List.mem_flatMap, List.mem_map, List.mem_range, Prod.mk.injEq]
  constructor
  · rintro ⟨t, ht, u, hu, v, hv, rfl, rfl, rfl⟩
    exact ⟨⟨by omega, by omega⟩, ⟨by omega, by omega⟩, by omega, by omega⟩
  · rintro ⟨⟨h1, h2⟩, ⟨h3, h4⟩, h5, h6⟩
    exact ⟨(x - a).toNat, by omega, (y - b).toNat, by omega, (z - c).toNat, by omega, by omega, by omega, by omega⟩
end Geo
end Go.Proofs.Ytldgihlhioeipaa
