/- chunk: the reference's prune, and what is told as changed. -/
import Derived.Test.YteglmahnkfgelaaGreatChuO
namespace Go.Proofs.YteglmahnkfgelaaGreat.K
open Go.ChangeShapes Go.WideShapes Go.ChangeAt Go.RowKit
set_option linter.unusedVariables false
set_option linter.unusedSimpArgs false
def rpr (h : List Ver) (f : Int) (i : Nat) : List Ver := (h.take i).drop (upN h f - 1)
theorem rpr_zero (h : List Ver) (f : Int) : rpr h f 0 = [] := by unfold rpr; rw [List.take_zero, List.drop_nil]
theorem rpr_all (h : List Ver) (f : Int) : rpr h f h.length = pruneF h f := by unfold rpr pruneF; rw [List.take_length]
theorem rpr_yes {h : List Ver} {f : Int} {i : Nat} {v : Ver} (hi : h[i]? = some v) (hu : upN h f ≤ i + 1) : rpr h f (i + 1) = rpr h f i ++ [v] := by
 unfold rpr
 rw [take_snoc hi, List.drop_append_of_le_length]
 have := (List.getElem?_eq_some_iff.1 hi).1
 rw [List.length_take]; omega
theorem rpr_no {h : List Ver} {f : Int} {i : Nat} (hu : i + 1 < upN h f) : rpr h f (i + 1) = rpr h f i := by
 unfold rpr
 rw [List.drop_eq_nil_of_le (by rw [List.length_take]; omega), List.drop_eq_nil_of_le (by rw [List.length_take]; omega)]
theorem rpr_gt {h : List Ver} (hr : Rise h) {f : Int} {i : Nat} (hi : i < h.length) : f < (h.getD i v0).1 ↔ upN h f ≤ i := by
 constructor
 · intro hg
   rcases Nat.lt_or_ge i (upN h f) with h1 | h1
   · have := upN_below h1; omega
   exact h1
 intro hu
 exact hr.above hi hu
def chgF (h : List Ver) (a b : Int) : Bool := decide (upN h a < h.length) && decide ((h.getD (upN h a) v0).1 ≤ b)
def chgL (H : List (List Ver)) (a b : Int) (k : Nat) : List Int := ((List.range k).filter fun i => chgF (H.getD i []) a b).map fun (i : Nat) => (i : Int)
end Go.Proofs.YteglmahnkfgelaaGreat.K
