/- A stream that came in. -/
import Derived.Test.YtkdnhndjjfjppaaInt14
import Derived.Test.YtkdnhndjjfjppaaG1
import Derived.Test.YtkdnhndjjfjppaaG2
import Derived.OpenShut
namespace Go.Proofs.Ytkdnhndjjfjppaa.K
open Go.ChangeShapes Go.WideShapes Go.ChangeAt Go.RowKit
set_option linter.unusedVariables false
abbrev strS : List Shp := [.i .i64, .i .i64, .i .i64, .i .i64, .l [.i .i64, .ns .u8]]
theorem fitsIt : Fits Try.prog 29 [.i .i64, .ns .u8] := .mk (sss := [[.i .i64], [.ns .u8]]) U29 (by kernel_rfl) rfl (.cons rfl (by kernel_rfl) (.int U3) (.cons rfl (by kernel_rfl) (.nums U25 U5 (by kernel_rfl) (by kernel_rfl)) (.nil _)))
theorem fitsStream : Fits Try.prog 24 strS := .mk (sss := [[.i .i64], [.i .i64], [.i .i64], [.i .i64], [.l [.i .i64, .ns .u8]]]) U24 (by kernel_rfl) rfl (.cons rfl (by kernel_rfl) (.int U3) (.cons rfl (by kernel_rfl) (.int U3) (.cons rfl (by kernel_rfl) (.int U2) (.cons rfl (by kernel_rfl) (.int U2) (.cons rfl (by kernel_rfl) (.rows U22 fitsIt (by kernel_rfl) (by decide) (by kernel_rfl)) (.nil _))))))
theorem it_form {r : List D} (h : DOkL [.i .i64, .ns .u8] r) : ∃ x : Int × List Int, r = itD x ∧ x.2.length ≤ reachBytes ∧ ∀ z ∈ x.2, (Lit.int .u8 z).wf = true := by
 obtain ⟨_, _, rfl, h0, h⟩ := h.cons_out
 obtain ⟨_, _, rfl, h1, h⟩ := h.cons_out
 obtain rfl := h.nil_out
 obtain ⟨z0, rfl, -⟩ := h0.i_out
 obtain ⟨zs, rfl, hl, hz⟩ := h1.ns_out
 exact ⟨(z0, zs), rfl, hl, hz⟩
theorem openS9 {S : Nat → Prop} {w : World} {vs : List Value} {ds : List D} (h : RdL S w vs ds) (q : DOkL [.i .i64, .i .i64, .i .i64, .i .i64, .l [.i .i64, .ns .u8]] ds) : ∃ (x0 : Int) (x1 : Int) (x2 : Int) (x3 : Int) (x4 : List (List D)) (p4 : Option Addr) (c4 : Nat), vs = [.int .i64 x0, .int .i64 x1, .int .i64 x2, .int .i64 x3, .slice p4 x4.length c4] ∧ (Lit.int .i64 x0).wf = true ∧ (Lit.int .i64 x1).wf = true ∧ (Lit.int .i64 x2).wf = true ∧ (Lit.int .i64 x3).wf = true ∧ Rd S w (.slice p4 x4.length c4) (.l ([.i .i64, .ns .u8] : List Shp).length x4) ∧ x4.length ≤ reachBytes ∧ (∀ r ∈ x4, DOkL [.i .i64, .ns .u8] r) := by
 obtain ⟨d0, r0, rfl, e0, q0⟩ := q.cons_out
 obtain ⟨v0, vs0, rfl, h0, hh0⟩ := h.cons_inv
 obtain ⟨x0, rfl, f0⟩ := e0.i_out; obtain rfl := h0.v_out
 obtain ⟨d1, r1, rfl, e1, q1⟩ := q0.cons_out
 obtain ⟨v1, vs1, rfl, h1, hh1⟩ := hh0.cons_inv
 obtain ⟨x1, rfl, f1⟩ := e1.i_out; obtain rfl := h1.v_out
 obtain ⟨d2, r2, rfl, e2, q2⟩ := q1.cons_out
 obtain ⟨v2, vs2, rfl, h2, hh2⟩ := hh1.cons_inv
 obtain ⟨x2, rfl, f2⟩ := e2.i_out; obtain rfl := h2.v_out
 obtain ⟨d3, r3, rfl, e3, q3⟩ := q2.cons_out
 obtain ⟨v3, vs3, rfl, h3, hh3⟩ := hh2.cons_inv
 obtain ⟨x3, rfl, f3⟩ := e3.i_out; obtain rfl := h3.v_out
 obtain ⟨d4, r4, rfl, e4, q4⟩ := q3.cons_out
 obtain ⟨v4, vs4, rfl, h4, hh4⟩ := hh3.cons_inv
 obtain ⟨x4, rfl, f4, g4⟩ := e4.l_out; obtain ⟨p4, c4, rfl, k4⟩ := h4.l_shape
 obtain rfl := q4.nil_out
 obtain rfl := hh4.nil_inv
 exact ⟨x0, x1, x2, x3, x4, p4, c4, rfl, f0, f1, f2, f3, h4, f4, g4⟩
end Go.Proofs.Ytkdnhndjjfjppaa.K
