/- small. -/
import Derived.Test.YteglmahnkfgelaaGreatChuP
namespace Go.Proofs.YteglmahnkfgelaaGreat.K
open Go.ChangeShapes Go.WideShapes Go.ChangeAt Go.RowKit
set_option linter.unusedVariables false
set_option linter.unusedSimpArgs false
theorem tmodNN (a b : Nat) : (a : Int).tmod b = ((a % b : Nat) : Int) := by rw [Int.tmod_eq_emod_of_nonneg (by omega)]; rfl
theorem place_pos {y : VolV} {n : Nat} (hS : VolS n y) : 0 < y.place.length := by
 obtain ⟨v1, -⟩ := hS.1
 obtain ⟨n1, n2, n3, n4, n5, n6, n7, n8, n9, n10, n11⟩ := v1
 have h : (1 : Int) ≤ (y.bl + y.pe - 1) / y.pe := Int.le_ediv_of_mul_le (by omega) (by omega)
 have := n9.2
 omega
theorem place_top {y : VolV} {n : Nat} (hS : VolS n y) : y.place.length ≤ 1000 := by
 obtain ⟨v1, -⟩ := hS.1
 obtain ⟨n1, n2, n3, n4, n5, n6, n7, n8, n9, n10, n11⟩ := v1
 have h : (y.bl + y.pe - 1) / y.pe ≤ y.bl + y.pe - 1 := Int.ediv_le_self _ (by omega)
 have := n9.2
 omega
end Go.Proofs.YteglmahnkfgelaaGreat.K
