/- volume: which items may be. -/
import Derived.Test.YtflcgpajodfkoaaDoorG2
import Derived.Test.YtflcgpajodfkoaaDoorVol2
namespace Go.Proofs.YtflcgpajodfkoaaDoor.K
open Go.ChangeShapes Go.WideShapes Go.ChangeAt Go.RowKit
set_option linter.unusedVariables false
set_option linter.unusedSimpArgs false
abbrev i0 : Int × List Int := (0, [])
theorem getI {l : List (Int × List Int)} {k : Nat} {e : Int × List Int} (h : l[k]? = some e) : l.getD k i0 = e := by rw [List.getD, h]; rfl
theorem ne_snoc {l : List (Int × List Int)} {k : Nat} {xb yb : Int} {yd : List Int} (h : ∀ j, j < k → (l.getD j i0).1 ≠ xb) (hes : l[k]? = some (yb, yd)) (hne : ¬ yb = xb) : ∀ j, j < k + 1 → (l.getD j i0).1 ≠ xb := fun j hj => by
 rcases Nat.lt_or_ge j k with h1 | h1
 · exact h j h1
 obtain rfl : j = k := by omega
 rw [getI hes]; exact hne
def ItPre (bl sz : Int) (l : List (Int × List Int)) (k : Nat) : Prop := ∀ j, j < k → 0 ≤ (l.getD j i0).1 ∧ (l.getD j i0).1 < bl ∧ ((l.getD j i0).2.length : Int) = sz ∧ ¬ ∃ e ∈ l.take j, e.1 = (l.getD j i0).1
def ItemsR (bl sz : Int) (l : List (Int × List Int)) : Prop := 1 ≤ l.length ∧ l.length ≤ 8 ∧ ItPre bl sz l l.length
theorem itpre_snoc {bl sz : Int} {l : List (Int × List Int)} {k : Nat} {yb : Int} {yd : List Int} (h : ItPre bl sz l k) (hes : l[k]? = some (yb, yd)) (hb : 0 ≤ yb ∧ yb < bl) (hs : (yd.length : Int) = sz) (hn : ¬ ∃ e ∈ l.take k, e.1 = yb) : ItPre bl sz l (k + 1) := fun j hj => by
 rcases Nat.lt_or_ge j k with h1 | h1
 · exact h j h1
 obtain rfl : j = k := by omega
 rw [getI hes]; exact ⟨hb.1, hb.2, hs, hn⟩
set_option maxRecDepth 100000
set_option maxHeartbeats 4000000
end Go.Proofs.YtflcgpajodfkoaaDoor.K
