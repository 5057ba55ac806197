/- chain: the streams of a volume of numbers. -/
import Derived.Test.YtodiklpfdfjikaaDoorCha3m
namespace Go.Proofs.YtodiklpfdfjikaaDoor.K
open Go.ChangeShapes Go.WideShapes Go.ChangeAt Go.RowKit
set_option linter.unusedVariables false
set_option linter.unusedSimpArgs false
set_option maxRecDepth 100000
set_option maxHeartbeats 4000000
theorem rstate_g (X : Cx) (y : VolV) (n : Nat) (hS : VolS n y) (hn : n ≤ 1000) (pp pn pw : Option Addr) (np cp nn cn9 cw : Nat) (fl tv : Int) (t : Nat) (htt : tv = t) (w0 : World) (hX : ∀ b, b ∉ X.bad) (ht0 : fl ≤ tv) (ht1 : t ≤ y.ws.length) (m0 : MemOk X w0 [(3, .dat (.slice pw (y.ws.map wrD).length cw) (.l 2 (y.ws.map wrD)))] w0) :
   Calls Tryd.prog 22 #[.agg #[.int .i64 y.vo, .int .i64 y.bl, .int .i64 y.sz, .int .i64 y.pe, .slice pp np cp, .int .i64 y.to, .int .i64 y.ne, .bool y.hi, .int .i64 fl, .slice pn nn cn9, .slice pw (y.ws.map wrD).length cw], .int .i64 tv] w0 fun e w' => ∃ p c, e = .returned (.tuple #[.slice p ((stL y.bl y.sz y.ws t).map bD).length c, .int .i64 0]) ∧ MemOk X w0 [(3, .dat (.slice pw (y.ws.map wrD).length cw) (.l 2 (y.ws.map wrD))), (9, .dat (.slice p ((stL y.bl y.sz y.ws t).map bD).length c) (.l 1 ((stL y.bl y.sz y.ws t).map bD)))] w' := by
 subst htt
 have hV := hS.1
 obtain ⟨v1, v2, v3, v4, v5, v6, v7, v8, v9⟩ := hV
 obtain ⟨n1, n2, n3, n4, n5, n6, n7, n8, n9, n10, n11⟩ := v1
 have hsm := hS.sm
 have hb := hS.1.dsz
 have h := rstate_any X y.vo y.bl y.sz y.pe y.to y.ne fl y.hi pp pn pw np cp nn cn9 cw y.ws t y.bl.toNat y.sz.toNat w0 hX (by omega) hS.1.its.1 (fun e he x hx => by have := (hb e he x hx).1; omega) (by omega) (by omega) ht0 ht1 m0
 rw [show ((y.bl.toNat : Nat) : Int) = y.bl by omega, show ((y.sz.toNat : Nat) : Int) = y.sz by omega] at h
 exact h
end Go.Proofs.YtodiklpfdfjikaaDoor.K
