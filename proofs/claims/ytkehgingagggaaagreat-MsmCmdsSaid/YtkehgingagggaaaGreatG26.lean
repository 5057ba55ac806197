/- General laws of walks. -/
import Derived.Test.YtkehgingagggaaaGreatG25
import Derived.Test.YtkehgingagggaaaGreatG9
import Derived.OpenShut
namespace Go.Proofs.YtkehgingagggaaaGreat.K
open Go.ChangeShapes Go.WideShapes Go.ChangeAt Go.RowKit
set_option linter.unusedVariables false
set_option linter.unusedSimpArgs false
section
abbrev cmdS : List Shp := [.i .i64,.i .i64,.i .i64,.i .i64,.i .i64,.ns .i64,.i .i64,.i .i64,.i .i64,.l [.i .i64,.ns .u8]]
theorem fitsIt : Fits Tryz.prog 59 [.i .i64,.ns .u8] := .mk (sss := [[.i .i64],[.ns .u8]]) U59 (by kernel_rfl) rfl (.cons rfl (by kernel_rfl) (.int U3) (.cons rfl (by kernel_rfl) (.nums U22 U5 (by kernel_rfl) (by kernel_rfl)) (.nil _)))
theorem fitsCmd : Fits Tryz.prog 38 cmdS := .mk (sss := [[.i .i64],[.i .i64],[.i .i64],[.i .i64],[.i .i64],[.ns .i64],[.i .i64],[.i .i64],[.i .i64],[.l [.i .i64,.ns .u8]]]) U38 (by kernel_rfl) rfl (.cons rfl (by kernel_rfl) (.int U3) (.cons rfl (by kernel_rfl) (.int U3) (.cons rfl (by kernel_rfl) (.int U3) (.cons rfl (by kernel_rfl) (.int U3) (.cons rfl (by kernel_rfl) (.int U3) (.cons rfl (by kernel_rfl) (.nums U35 U3 (by kernel_rfl) (by kernel_rfl)) (.cons rfl (by kernel_rfl) (.int U3) (.cons rfl (by kernel_rfl) (.int U2) (.cons rfl (by kernel_rfl) (.int U3) (.cons rfl (by kernel_rfl) (.rows U36 fitsIt (by kernel_rfl) (by decide) (by kernel_rfl)) (.nil _)))))))))))
theorem it_formB {r : List D} (h : DOkL [.i .i64,.ns .u8] r) : ∃ x : Int × List Int,r = itD x ∧ BytesL x.2 := by
 obtain ⟨_,_,rfl,h0,h⟩ := h.cons_out
 obtain ⟨_,_,rfl,h1,h⟩ := h.cons_out
 obtain rfl := h.nil_out
 obtain ⟨z0,rfl,-⟩ := h0.i_out
 obtain ⟨zs,rfl,hl,hz⟩ := h1.ns_out
 exact ⟨(z0,zs),rfl,fun z hz9 => bounds_u8 (hz z hz9)⟩
theorem openC {S : Nat → Prop} {w : World} {vs : List Value} {ds : List D} (h : RdL S w vs ds) (q : DOkL [.i .i64,.i .i64,.i .i64,.i .i64,.i .i64,.ns .i64,.i .i64,.i .i64,.i .i64,.l [.i .i64,.ns .u8]] ds) : ∃ (x0 : Int) (x1 : Int) (x2 : Int) (x3 : Int) (x4 : Int) (x5 : List Int) (p5 : Option Addr) (c5 : Nat) (x6 : Int) (x7 : Int) (x8 : Int) (x9 : List (List D)) (p9 : Option Addr) (c9 : Nat),vs = [.int .i64 x0,.int .i64 x1,.int .i64 x2,.int .i64 x3,.int .i64 x4,.slice p5 x5.length c5,.int .i64 x6,.int .i64 x7,.int .i64 x8,.slice p9 x9.length c9] ∧ (Lit.int .i64 x0).wf = true ∧ (Lit.int .i64 x1).wf = true ∧ (Lit.int .i64 x2).wf = true ∧ (Lit.int .i64 x3).wf = true ∧ (Lit.int .i64 x4).wf = true ∧ Rd S w (.slice p5 x5.length c5) (.ns .i64 x5) ∧ x5.length ≤ reachBytes ∧ (∀ z ∈ x5,(Lit.int .i64 z).wf = true) ∧ (Lit.int .i64 x6).wf = true ∧ (Lit.int .i64 x7).wf = true ∧ (Lit.int .i64 x8).wf = true ∧ Rd S w (.slice p9 x9.length c9) (.l ([.i .i64,.ns .u8] : List Shp).length x9) ∧ x9.length ≤ reachBytes ∧ (∀ r ∈ x9,DOkL [.i .i64,.ns .u8] r) := by
 obtain ⟨d0,r0,rfl,e0,q0⟩ := q.cons_out
 obtain ⟨v0,vs0,rfl,h0,hh0⟩ := h.cons_inv
 obtain ⟨x0,rfl,f0⟩ := e0.i_out; obtain rfl := h0.v_out
 obtain ⟨d1,r1,rfl,e1,q1⟩ := q0.cons_out
 obtain ⟨v1,vs1,rfl,h1,hh1⟩ := hh0.cons_inv
 obtain ⟨x1,rfl,f1⟩ := e1.i_out; obtain rfl := h1.v_out
 obtain ⟨d2,r2,rfl,e2,q2⟩ := q1.cons_out
 obtain ⟨v2,vs2,rfl,h2,hh2⟩ := hh1.cons_inv
 obtain ⟨x2,rfl,f2⟩ := e2.i_out; obtain rfl := h2.v_out
 obtain ⟨d3,r3,rfl,e3,q3⟩ := q2.cons_out
 obtain ⟨v3,vs3,rfl,h3,hh3⟩ := hh2.cons_inv
 obtain ⟨x3,rfl,f3⟩ := e3.i_out; obtain rfl := h3.v_out
 obtain ⟨d4,r4,rfl,e4,q4⟩ := q3.cons_out
 obtain ⟨v4,vs4,rfl,h4,hh4⟩ := hh3.cons_inv
 obtain ⟨x4,rfl,f4⟩ := e4.i_out; obtain rfl := h4.v_out
 obtain ⟨d5,r5,rfl,e5,q5⟩ := q4.cons_out
 obtain ⟨v5,vs5,rfl,h5,hh5⟩ := hh4.cons_inv
 obtain ⟨x5,rfl,f5,g5⟩ := e5.ns_out; obtain ⟨p5,c5,rfl,k5⟩ := h5.ns_shape
 obtain ⟨d6,r6,rfl,e6,q6⟩ := q5.cons_out
 obtain ⟨v6,vs6,rfl,h6,hh6⟩ := hh5.cons_inv
 obtain ⟨x6,rfl,f6⟩ := e6.i_out; obtain rfl := h6.v_out
 obtain ⟨d7,r7,rfl,e7,q7⟩ := q6.cons_out
 obtain ⟨v7,vs7,rfl,h7,hh7⟩ := hh6.cons_inv
 obtain ⟨x7,rfl,f7⟩ := e7.i_out; obtain rfl := h7.v_out
 obtain ⟨d8,r8,rfl,e8,q8⟩ := q7.cons_out
 obtain ⟨v8,vs8,rfl,h8,hh8⟩ := hh7.cons_inv
 obtain ⟨x8,rfl,f8⟩ := e8.i_out; obtain rfl := h8.v_out
 obtain ⟨d9,r9,rfl,e9,q9⟩ := q8.cons_out
 obtain ⟨v9,vs9,rfl,h9,hh9⟩ := hh8.cons_inv
 obtain ⟨x9,rfl,f9,g9⟩ := e9.l_out; obtain ⟨p9,c9,rfl,k9⟩ := h9.l_shape
 obtain rfl := q9.nil_out
 obtain rfl := hh9.nil_inv
 exact ⟨x0,x1,x2,x3,x4,x5,p5,c5,x6,x7,x8,x9,p9,c9,rfl,f0,f1,f2,f3,f4,h5,f5,g5,f6,f7,f8,h9,f9,g9⟩
end
end Go.Proofs.YtkehgingagggaaaGreat.K
