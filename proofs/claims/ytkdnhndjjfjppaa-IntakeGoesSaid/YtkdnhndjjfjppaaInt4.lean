/- IntakeCounts' walk. -/
import Derived.Test.YtkdnhndjjfjppaaInt3
namespace Go.Proofs.Ytkdnhndjjfjppaa.K
open Go.ChangeShapes Go.WideShapes Go.ChangeAt Go.RowKit
set_option linter.unusedVariables false
set_option linter.unusedSimpArgs false
theorem tmod_n3 {a n : Int} (ha : 0 ≤ a) (hn : 0 < n) : ∃ x : Nat, a.tmod n = (x : Int) ∧ (x : Int) < n := by
 have h1 := Int.emod_nonneg a (show n ≠ 0 by omega)
 have h2 := Int.emod_lt_of_pos a hn
 exact ⟨(a % n).toNat, by rw [Int.tmod_eq_emod_of_nonneg ha]; omega, by omega⟩
theorem plan_end {bl : Int} {n T L : Nat} (h1 : 1 ≤ n) (hT : (bl + (n : Int) - 1) / (n : Int) = (T : Int)) (hL : (L : Int) = bl) : T * n ≥ L := by
 have q2 := Int.lt_ediv_add_one_mul_self (bl + (n : Int) - 1) (show 0 < (n : Int) by omega)
 rw [hT, Int.add_mul, Int.one_mul, ← Int.natCast_mul] at q2
 omega
theorem planL_imp {vo pe : Int} {pl : List Int} {bl sz : Int} {its : List (Int × List Int)} {n T i : Nat} (h : i < T) : (planL vo pe pl bl sz its n T)[i + 1]? = some (impR vo its n i) := by
 simp only [planL, List.cons_append, List.getElem?_cons_succ]
 rw [List.getElem?_append_left (by simpa using h)]
 simp [h]
theorem planL_end {vo pe : Int} {pl : List Int} {bl sz : Int} {its : List (Int × List Int)} {n T : Nat} : (planL vo pe pl bl sz its n T)[T + 1]? = some ⟨7, vo, 0, 0, 0, [], 0, 0, 0, []⟩ := by
 simp only [planL, List.cons_append, List.getElem?_cons_succ]
 rw [List.getElem?_append_right (by simp)]
 simp
set_option maxRecDepth 100000
set_option maxHeartbeats 4000000
end Go.Proofs.Ytkdnhndjjfjppaa.K
