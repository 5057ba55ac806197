/- Elements of an array behind a pointer. For any program. -/
import Derived.Test.YtocfbocdnklllaaAb18
namespace Go.Proofs.Ytocfbocdnklllaa.K
open Go.ChangeShapes Go.WideShapes Go.ChangeAt Go.RowKit
set_option linter.unusedVariables false
set_option linter.unusedSimpArgs false
variable {P : Program} {n : Nat} {T : List (Nat × Value)} {a : Act} {w : World} {d : Option Tmp} {tt : TypeId} {pos : String} {af : Array Edge} {gd : Option (Nat × Bool)}
theorem run_idxA {t e : TypeId} {b o L s : Nat} {k : IntKind} {q : Int} (hu : P.underlying t = some (.array L e)) (hs : (P.info? e).map (·.size) = some s) (j : Nat) (hq : q = j) (hj : j < L) : (Instr.indexAt t (.pointer (some ⟨b, o, none⟩)) (.int k q)).run P w = .ok (.pointer (some ⟨b, o + j * s, none⟩)) w := by
 subst hq
 cases hi : P.info? e with
 | none => simp [hi] at hs
 | some i =>
   have hj' : i.size = s := by simpa [hi] using hs
   have h2 : ((j : Int) < (L : Int)) := by omega
   have h3 : ¬ L ≤ j := by omega
   simp [Instr.indexAt, asIntOf, run_underlying hu, h2, h3, sizeOf, typeInfo, hi, hj', Instr.sureAddr, Addr.add_mid]
theorem y_idxA (ha : Has n T a) {t e : TypeId} {x y : Operand} {b o L s : Nat} {k : IntKind} {q : Int} (hx : evT T x = some (.pointer (some ⟨b, o, none⟩))) (hy : evT T y = some (.int k q)) (hu : P.underlying t = some (.array L e)) (hs : (P.info? e).map (·.size) = some s) (j : Nat) (hq : q = j) (hj : j < L) {off : Nat} (hoff : o + j * s = off) : Yl P a w ⟨d, .indexAddr t x y, tt, pos, af, gd⟩ (.pointer (some ⟨b, off, none⟩)) := by
 subst hoff
 show (execOp _ _).run P w = _
 simp [execOp, ha.ev hx, ha.ev hy, run_idxA hu hs j hq hj]
end Go.Proofs.Ytocfbocdnklllaa.K
