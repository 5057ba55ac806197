/- An array of three bytes that came in. -/
import Derived.Test.YtocfbocdnklllaaVol13
import Derived.Test.YtocfbocdnklllaaAb20
import Derived.OpenShut
namespace Go.Proofs.Ytocfbocdnklllaa.K
open Go.ChangeShapes Go.WideShapes Go.ChangeAt Go.RowKit
set_option linter.unusedVariables false
theorem fitsA3 : Fits Try.prog 59 [.i .u8, .i .u8, .i .u8] := .arr Try.underlying59 (.int Try.underlying5) (by kernel_rfl) rfl (by kernel_rfl)
theorem open3 {S : Nat → Prop} {w : World} {vs : List Value} {ds : List D} (h : RdL S w vs ds) (q : DOkL [.i .u8, .i .u8, .i .u8] ds) : ∃ (x0 : Int) (x1 : Int) (x2 : Int), vs = [.int .u8 x0, .int .u8 x1, .int .u8 x2] ∧ (Lit.int .u8 x0).wf = true ∧ (Lit.int .u8 x1).wf = true ∧ (Lit.int .u8 x2).wf = true := by
  obtain ⟨d0, r0, rfl, e0, q0⟩ := q.cons_out
  obtain ⟨v0, vs0, rfl, h0, hh0⟩ := h.cons_inv
  obtain ⟨x0, rfl, f0⟩ := e0.i_out; obtain rfl := h0.v_out
  obtain ⟨d1, r1, rfl, e1, q1⟩ := q0.cons_out
  obtain ⟨v1, vs1, rfl, h1, hh1⟩ := hh0.cons_inv
  obtain ⟨x1, rfl, f1⟩ := e1.i_out; obtain rfl := h1.v_out
  obtain ⟨d2, r2, rfl, e2, q2⟩ := q1.cons_out
  obtain ⟨v2, vs2, rfl, h2, hh2⟩ := hh1.cons_inv
  obtain ⟨x2, rfl, f2⟩ := e2.i_out; obtain rfl := h2.v_out
  obtain rfl := q2.nil_out
  obtain rfl := hh2.nil_inv
  exact ⟨x0, x1, x2, rfl, f0, f1, f2⟩
end Go.Proofs.Ytocfbocdnklllaa.K
