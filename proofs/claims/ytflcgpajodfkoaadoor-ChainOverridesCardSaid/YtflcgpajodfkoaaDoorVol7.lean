/- volume: State. -/
import Derived.Test.YtflcgpajodfkoaaDoorVol6
namespace Go.Proofs.YtflcgpajodfkoaaDoor.K
open Go.ChangeShapes Go.WideShapes Go.ChangeAt Go.RowKit
set_option linter.unusedVariables false
set_option linter.unusedSimpArgs false
def stStep (L : List (List Int)) (x : Int × List Int) : List (List Int) := if 0 ≤ x.1 ∧ x.1 ≤ (L.length : Int) - 1 then L.set x.1.toNat x.2 else L
def stW (L : List (List Int)) (x : Int × List (Int × List Int)) : List (List Int) := x.2.foldl stStep L
theorem bD_get {L : List (List Int)} {k : Nat} (h : k < L.length) : (L.map bD)[k]? = some [.ns .u8 (L.getD k [])] := by simp [bD, List.getD, h]
theorem stx_yes {L L2 : List (List Int)} {xl : List (Int × List Int)} {j : Nat} {xb : Int} {xd : List Int} (h : xl[j]? = some (xb, xd)) (hL : L2 = (xl.take j).foldl stStep L) (hb : 0 ≤ xb ∧ xb ≤ (L2.length : Int) - 1) : L2.set xb.toNat xd = (xl.take (j + 1)).foldl stStep L := by
 rw [take_snoc h, List.foldl_append, ← hL]; simp only [List.foldl_cons, List.foldl_nil, stStep]; rw [if_pos hb]
theorem st_snoc {L0 L L2 : List (List Int)} {ws : List (Int × List (Int × List Int))} {k : Nat} {xs : Int} {xl : List (Int × List Int)} (h : ws[k]? = some (xs, xl)) (hL : L = (ws.take k).foldl stW L0) (h2 : L2 = xl.foldl stStep L) : L2 = (ws.take (k + 1)).foldl stW L0 := by
 rw [take_snoc h, List.foldl_append, ← hL]; exact h2
set_option maxRecDepth 100000
set_option maxHeartbeats 4000000
end Go.Proofs.YtflcgpajodfkoaaDoor.K
