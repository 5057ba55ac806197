/- Chunks that came in. -/
import Derived.Test.YtamjnimaeecmoaaGreatExg7
import Derived.Test.YtamjnimaeecmoaaGreatG3
import Derived.OpenShut
namespace Go.Proofs.YtamjnimaeecmoaaGreat.K
open Go.ChangeShapes Go.WideShapes Go.ChangeAt Go.RowKit
set_option linter.unusedVariables false
abbrev chuS : List Shp := [.i .i64, .i .i64, .i .i64, .i .i64, .i .i64, .i .i64, .l [.l [.i .i64, .ns .u8]]]
theorem fitsVn : Fits Tryz.prog 71 [.i .i64, .ns .u8] := .mk (sss := [[.i .i64], [.ns .u8]]) U71 (by kernel_rfl) rfl (.cons rfl (by kernel_rfl) (.int U2) (.cons rfl (by kernel_rfl) (.nums U22 U5 (by kernel_rfl) (by kernel_rfl)) (.nil _)))
theorem fitsVns : Fits Tryz.prog 69 [.l [.i .i64, .ns .u8]] := .rows U69 fitsVn (by kernel_rfl) (by decide) (by kernel_rfl)
theorem fitsChu : Fits Tryz.prog 28 chuS := .mk (sss := [[.i .i64], [.i .i64], [.i .i64], [.i .i64], [.i .i64], [.i .i64], [.l [.l [.i .i64, .ns .u8]]]]) U28 (by kernel_rfl) rfl (.cons rfl (by kernel_rfl) (.int U3) (.cons rfl (by kernel_rfl) (.int U3) (.cons rfl (by kernel_rfl) (.int U3) (.cons rfl (by kernel_rfl) (.int U3) (.cons rfl (by kernel_rfl) (.int U2) (.cons rfl (by kernel_rfl) (.int U2) (.cons rfl (by kernel_rfl) (.rows U26 fitsVns (by kernel_rfl) (by decide) (by kernel_rfl)) (.nil _))))))))
theorem fitsChus : Fits Tryz.prog 23 [.l chuS] := .rows U23 fitsChu (by kernel_rfl) (by decide) (by kernel_rfl)
theorem vn_form {r : List D} (h : DOkL [.i .i64, .ns .u8] r) : ∃ x : Ver, r = itD x ∧ True := by
 obtain ⟨_, _, rfl, h0, h⟩ := h.cons_out
 obtain ⟨_, _, rfl, h1, h⟩ := h.cons_out
 obtain rfl := h.nil_out
 obtain ⟨z0, rfl, -⟩ := h0.i_out
 obtain ⟨zs, rfl, hl, hz⟩ := h1.ns_out
 exact ⟨(z0, zs), rfl, trivial⟩
theorem vns_form {r : List D} (h : DOkL [.l [.i .i64, .ns .u8]] r) : ∃ x : List Ver, r = hD x ∧ True := by
 obtain ⟨_, _, rfl, h0, h⟩ := h.cons_out
 obtain rfl := h.nil_out
 obtain ⟨rows, rfl, hl, hr⟩ := h0.l_out
 obtain ⟨vs, rfl, -⟩ := rows_map (fun r hr' => vn_form (hr r hr'))
 exact ⟨vs, rfl, trivial⟩
theorem chu_form {r : List D} (h : DOkL chuS r) : ∃ x : Int × Int × Int × Int × Int × Int × List (List Ver), r = rwD x ∧ True := by
 obtain ⟨_, _, rfl, h0, h⟩ := h.cons_out
 obtain ⟨_, _, rfl, h1, h⟩ := h.cons_out
 obtain ⟨_, _, rfl, h2, h⟩ := h.cons_out
 obtain ⟨_, _, rfl, h3, h⟩ := h.cons_out
 obtain ⟨_, _, rfl, h4, h⟩ := h.cons_out
 obtain ⟨_, _, rfl, h5, h⟩ := h.cons_out
 obtain ⟨_, _, rfl, h6, h⟩ := h.cons_out
 obtain rfl := h.nil_out
 obtain ⟨z0, rfl, -⟩ := h0.i_out
 obtain ⟨z1, rfl, -⟩ := h1.i_out
 obtain ⟨z2, rfl, -⟩ := h2.i_out
 obtain ⟨z3, rfl, -⟩ := h3.i_out
 obtain ⟨z4, rfl, -⟩ := h4.i_out
 obtain ⟨z5, rfl, -⟩ := h5.i_out
 obtain ⟨rows, rfl, hl, hr⟩ := h6.l_out
 obtain ⟨hs, rfl, -⟩ := rows_map (fun r hr' => vns_form (hr r hr'))
 exact ⟨(z0, z1, z2, z3, z4, z5, hs), rfl, trivial⟩
end Go.Proofs.YtamjnimaeecmoaaGreat.K
