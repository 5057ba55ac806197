/- A volume that came in. -/
import Derived.Test.YtocfbocdnklllaaVol35
import Derived.Test.YtocfbocdnklllaaG2
import Derived.OpenShut
namespace Go.Proofs.Ytocfbocdnklllaa.K
open Go.ChangeShapes Go.WideShapes Go.ChangeAt Go.RowKit
set_option linter.unusedVariables false
abbrev itS : List Shp := [.i .i64, .ns .u8]
abbrev volS : List Shp := [.i .i64, .i .i64, .i .i64, .i .i64, .ns .i64, .i .i64, .i .i64, .bo, .i .i64, .ns .i64, .l [.i .i64, .l [.i .i64, .ns .u8]]]
theorem fitsIt : Fits Try.prog 67 [.i .i64, .ns .u8] := .mk (sss := [[.i .i64], [.ns .u8]]) Try.underlying67 (by kernel_rfl) rfl (.cons rfl (by kernel_rfl) (.int Try.underlying3) (.cons rfl (by kernel_rfl) (.nums Try.underlying43 Try.underlying5 (by kernel_rfl) (by kernel_rfl)) (.nil _)))
theorem it_form {r : List D} (h : DOkL [.i .i64, .ns .u8] r) : ∃ x : Int × List Int, r = itD x ∧ x.2.length ≤ reachBytes ∧ ∀ z ∈ x.2, (Lit.int .u8 z).wf = true := by
 obtain ⟨_, _, rfl, h0, h⟩ := h.cons_out
 obtain ⟨_, _, rfl, h1, h⟩ := h.cons_out
 obtain rfl := h.nil_out
 obtain ⟨z0, rfl, -⟩ := h0.i_out
 obtain ⟨zs, rfl, hl, hz⟩ := h1.ns_out
 exact ⟨(z0, zs), rfl, hl, hz⟩
theorem fitsWr : Fits Try.prog 55 [.i .i64, .l [.i .i64, .ns .u8]] := .mk (sss := [[.i .i64], [.l [.i .i64, .ns .u8]]]) Try.underlying55 (by kernel_rfl) rfl (.cons rfl (by kernel_rfl) (.int Try.underlying2) (.cons rfl (by kernel_rfl) (.rows Try.underlying23 fitsIt (by kernel_rfl) (by decide) (by kernel_rfl)) (.nil _)))
theorem fitsVol : Fits Try.prog 34 volS := .mk (sss := [[.i .i64], [.i .i64], [.i .i64], [.i .i64], [.ns .i64], [.i .i64], [.i .i64], [.bo], [.i .i64], [.ns .i64], [.l [.i .i64, .l [.i .i64, .ns .u8]]]]) Try.underlying34 (by kernel_rfl) rfl (.cons rfl (by kernel_rfl) (.int Try.underlying3) (.cons rfl (by kernel_rfl) (.int Try.underlying3) (.cons rfl (by kernel_rfl) (.int Try.underlying3) (.cons rfl (by kernel_rfl) (.int Try.underlying3) (.cons rfl (by kernel_rfl) (.nums Try.underlying22 Try.underlying3 (by kernel_rfl) (by kernel_rfl)) (.cons rfl (by kernel_rfl) (.int Try.underlying3) (.cons rfl (by kernel_rfl) (.int Try.underlying3) (.cons rfl (by kernel_rfl) (.bool Try.underlying4) (.cons rfl (by kernel_rfl) (.int Try.underlying2) (.cons rfl (by kernel_rfl) (.nums Try.underlying31 Try.underlying2 (by kernel_rfl) (by kernel_rfl)) (.cons rfl (by kernel_rfl) (.rows Try.underlying32 fitsWr (by kernel_rfl) (by decide) (by kernel_rfl)) (.nil _))))))))))))
theorem fitsIts : Fits Try.prog 23 [.l itS] := .rows Try.underlying23 fitsIt (by kernel_rfl) (by decide) (by kernel_rfl)
theorem wr_form {r : List D} (h : DOkL [.i .i64, .l [.i .i64, .ns .u8]] r) : ∃ x : Int × List (Int × List Int), r = wrD x ∧ x.2.length ≤ 140737488351232 := by
 obtain ⟨_, _, rfl, h0, h⟩ := h.cons_out
 obtain ⟨_, _, rfl, h1, h⟩ := h.cons_out
 obtain rfl := h.nil_out
 obtain ⟨z0, rfl, -⟩ := h0.i_out
 obtain ⟨rows, rfl, hl, hr⟩ := h1.l_out
 obtain ⟨its, rfl, -⟩ := rows_map (fun r hr' => it_form (hr r hr'))
 exact ⟨(z0, its), rfl, by rw [List.length_map] at hl; unfold reachBytes at hl; exact hl⟩
theorem openV {S : Nat → Prop} {w : World} {vs : List Value} {ds : List D} (h : RdL S w vs ds) (q : DOkL [.i .i64, .i .i64, .i .i64, .i .i64, .ns .i64, .i .i64, .i .i64, .bo, .i .i64, .ns .i64, .l [.i .i64, .l [.i .i64, .ns .u8]]] ds) : ∃ (x0 : Int) (x1 : Int) (x2 : Int) (x3 : Int) (x4 : List Int) (p4 : Option Addr) (c4 : Nat) (x5 : Int) (x6 : Int) (x7 : Bool) (x8 : Int) (x9 : List Int) (p9 : Option Addr) (c9 : Nat) (x10 : List (List D)) (p10 : Option Addr) (c10 : Nat), vs = [.int .i64 x0, .int .i64 x1, .int .i64 x2, .int .i64 x3, .slice p4 x4.length c4, .int .i64 x5, .int .i64 x6, .bool x7, .int .i64 x8, .slice p9 x9.length c9, .slice p10 x10.length c10] ∧ (Lit.int .i64 x0).wf = true ∧ (Lit.int .i64 x1).wf = true ∧ (Lit.int .i64 x2).wf = true ∧ (Lit.int .i64 x3).wf = true ∧ Rd S w (.slice p4 x4.length c4) (.ns .i64 x4) ∧ x4.length ≤ reachBytes ∧ (∀ z ∈ x4, (Lit.int .i64 z).wf = true) ∧ (Lit.int .i64 x5).wf = true ∧ (Lit.int .i64 x6).wf = true ∧ (Lit.int .i64 x8).wf = true ∧ Rd S w (.slice p9 x9.length c9) (.ns .i64 x9) ∧ x9.length ≤ reachBytes ∧ (∀ z ∈ x9, (Lit.int .i64 z).wf = true) ∧ Rd S w (.slice p10 x10.length c10) (.l ([.i .i64, .l [.i .i64, .ns .u8]] : List Shp).length x10) ∧ x10.length ≤ reachBytes ∧ (∀ r ∈ x10, DOkL [.i .i64, .l [.i .i64, .ns .u8]] r) := by
 obtain ⟨d0, r0, rfl, e0, q0⟩ := q.cons_out
 obtain ⟨v0, vs0, rfl, h0, hh0⟩ := h.cons_inv
 obtain ⟨x0, rfl, f0⟩ := e0.i_out; obtain rfl := h0.v_out
 obtain ⟨d1, r1, rfl, e1, q1⟩ := q0.cons_out
 obtain ⟨v1, vs1, rfl, h1, hh1⟩ := hh0.cons_inv
 obtain ⟨x1, rfl, f1⟩ := e1.i_out; obtain rfl := h1.v_out
 obtain ⟨d2, r2, rfl, e2, q2⟩ := q1.cons_out
 obtain ⟨v2, vs2, rfl, h2, hh2⟩ := hh1.cons_inv
 obtain ⟨x2, rfl, f2⟩ := e2.i_out; obtain rfl := h2.v_out
 obtain ⟨d3, r3, rfl, e3, q3⟩ := q2.cons_out
 obtain ⟨v3, vs3, rfl, h3, hh3⟩ := hh2.cons_inv
 obtain ⟨x3, rfl, f3⟩ := e3.i_out; obtain rfl := h3.v_out
 obtain ⟨d4, r4, rfl, e4, q4⟩ := q3.cons_out
 obtain ⟨v4, vs4, rfl, h4, hh4⟩ := hh3.cons_inv
 obtain ⟨x4, rfl, f4, g4⟩ := e4.ns_out; obtain ⟨p4, c4, rfl, k4⟩ := h4.ns_shape
 obtain ⟨d5, r5, rfl, e5, q5⟩ := q4.cons_out
 obtain ⟨v5, vs5, rfl, h5, hh5⟩ := hh4.cons_inv
 obtain ⟨x5, rfl, f5⟩ := e5.i_out; obtain rfl := h5.v_out
 obtain ⟨d6, r6, rfl, e6, q6⟩ := q5.cons_out
 obtain ⟨v6, vs6, rfl, h6, hh6⟩ := hh5.cons_inv
 obtain ⟨x6, rfl, f6⟩ := e6.i_out; obtain rfl := h6.v_out
 obtain ⟨d7, r7, rfl, e7, q7⟩ := q6.cons_out
 obtain ⟨v7, vs7, rfl, h7, hh7⟩ := hh6.cons_inv
 obtain ⟨x7, rfl⟩ := e7.bo_out; obtain rfl := h7.v_out
 obtain ⟨d8, r8, rfl, e8, q8⟩ := q7.cons_out
 obtain ⟨v8, vs8, rfl, h8, hh8⟩ := hh7.cons_inv
 obtain ⟨x8, rfl, f8⟩ := e8.i_out; obtain rfl := h8.v_out
 obtain ⟨d9, r9, rfl, e9, q9⟩ := q8.cons_out
 obtain ⟨v9, vs9, rfl, h9, hh9⟩ := hh8.cons_inv
 obtain ⟨x9, rfl, f9, g9⟩ := e9.ns_out; obtain ⟨p9, c9, rfl, k9⟩ := h9.ns_shape
 obtain ⟨d10, r10, rfl, e10, q10⟩ := q9.cons_out
 obtain ⟨v10, vs10, rfl, h10, hh10⟩ := hh9.cons_inv
 obtain ⟨x10, rfl, f10, g10⟩ := e10.l_out; obtain ⟨p10, c10, rfl, k10⟩ := h10.l_shape
 obtain rfl := q10.nil_out
 obtain rfl := hh10.nil_inv
 exact ⟨x0, x1, x2, x3, x4, p4, c4, x5, x6, x7, x8, x9, p9, c9, x10, p10, c10, rfl, f0, f1, f2, f3, h4, f4, g4, f5, f6, f8, h9, f9, g9, h10, f10, g10⟩
end Go.Proofs.Ytocfbocdnklllaa.K
