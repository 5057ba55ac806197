/- IntakeCounts' walk. -/
import Derived.Test.YtkdnhndjjfjppaaInt3
namespace Go.Proofs.Ytkdnhndjjfjppaa.K
open Go.ChangeShapes Go.WideShapes Go.ChangeAt Go.RowKit
set_option linter.unusedVariables false
set_option linter.unusedSimpArgs false
theorem tmod_n3 {a n : Int} (ha : 0 ≤ a) (hn : 0 < n) : ∃ x : Nat, a.tmod n = (x : Int) ∧ (x : Int) < n := by
 have h1 := Int.emod_nonneg a (show n ≠ 0 by omega)
 have h2 := Int.emod_lt_of_pos a hn
 exact ⟨(a % n).toNat, by rw [Int.tmod_eq_emod_of_nonneg ha]; omega, by omega⟩
set_option maxRecDepth 100000
set_option maxHeartbeats 4000000
end Go.Proofs.Ytkdnhndjjfjppaa.K
