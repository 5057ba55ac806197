/- volume: Push. -/
import Derived.Test.YtkdnhndjjfjppaaVol7
namespace Go.Proofs.Ytkdnhndjjfjppaa.K
open Go.ChangeShapes Go.WideShapes Go.ChangeAt Go.RowKit
set_option linter.unusedVariables false
set_option linter.unusedSimpArgs false
def pushL (fi cnt : Int) (W : List (Int × List (Int × List Int))) : List (Int × List (Int × List Int)) := (W.map (fun w => (w.1, itemsL fi cnt w.2))).filter (fun w => decide (0 < w.2.length))
section
variable {P : Program} {n : Nat} {T : List (Nat × Value)} {a : Act} {w : World} {d : Option Tmp} {tt : TypeId} {pos : String} {af : Array Edge} {gd : Option (Nat × Bool)}
theorem y_sliceLHn (h : Has n T a) {t e : TypeId} {x y z : Operand} {p p2 : Option Addr} {l c c2 l2 : Nat} {k k2 : IntKind} {q r : Int} (i j : Nat) (hx : evT T x = some (.slice p l c)) (hy : evT T y = some (.int k q)) (hz : evT T z = some (.int k2 r)) (hu : P.underlying t = some (.slice e)) {s : Nat} (hs : (P.info? e).map (·.size) = some s) (hq : q = i) (hr : r = j) (h1 : i ≤ j) (h2 : j ≤ c) (hp : (if c = i then p else p.map (·.add (i * s))) = p2) (hc : c - i = c2) (hl : j - i = l2) : Yl P a w ⟨d, .slice t x (some y) (some z) none, tt, pos, af, gd⟩ (.slice p2 l2 c2) := by
 subst hq; subst hr; subst hc; subst hl; rw [← hp]
 have := y_sliceLH (P := P) (w := w) (tt := tt) (pos := pos) (af := af) (gd := gd) (d := d) h hx hy hz hu hs (by omega) (by omega) (by omega)
 rwa [Int.toNat_natCast, Int.toNat_natCast] at this
end
set_option maxRecDepth 100000
set_option maxHeartbeats 4000000
end Go.Proofs.Ytkdnhndjjfjppaa.K
