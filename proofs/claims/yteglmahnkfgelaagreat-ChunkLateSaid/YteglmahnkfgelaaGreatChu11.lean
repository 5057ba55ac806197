/- chunk: the contracts at a volume's chunk. -/
import Derived.Test.YteglmahnkfgelaaGreatChuP
namespace Go.Proofs.YteglmahnkfgelaaGreat.K
open Go.ChangeShapes Go.WideShapes Go.ChangeAt Go.RowKit
set_option linter.unusedVariables false
set_option linter.unusedSimpArgs false
set_option maxRecDepth 100000
set_option maxHeartbeats 4000000
theorem gpush_x (X : Cx) (y : VolV) (k fn cnt m : Nat) (hC : CkOk y k fn cnt) (hF : VolF y) (hwo : WrsOk y.ws) (pp pn pw : Option Addr) (cp nn9 cn9 cw : Nat) (mi : Int) (w0 : World) (hmi : mi = (m : Int)) (hm : m ≤ y.ws.length) (m0 : MemOk X w0 [(3, .dat (.slice pw (y.ws.map wrD).length cw) (.l 2 (y.ws.map wrD)))] w0) :
   Calls Tryz.prog 36 #[.agg #[.int .i64 y.vo, .int .i64 y.bl, .int .i64 y.sz, .int .i64 y.pe, .slice pp y.place.length cp, .int .i64 y.to, .int .i64 y.ne, .bool y.hi, .int .i64 y.fl, .slice pn nn9 cn9, .slice pw (y.ws.map wrD).length cw], .int .i64 (k : Int), .int .i64 mi] w0 fun e w' => ∃ (p : Option Addr) (c : Nat), e = .returned (.tuple #[.agg #[.int .i64 y.vo, .int .i64 (k : Int), .int .i64 (cnt : Int), .int .i64 y.sz, .int .i64 mi, .int .i64 (tqN y m : Int), .int .i64 (min y.fl (tqN y m : Int)), .slice p (pwN y fn cnt m).length c], .bool true]) ∧ MemOk X w0 [(3, .dat (.slice pw (y.ws.map wrD).length cw) (.l 2 (y.ws.map wrD))), (9, .dat (.slice p (pwN y fn cnt m).length c) (.l 2 ((pwN y fn cnt m).map wrD)))] w' := by
 subst hmi
 have hw := hF.wr; have hl := hF.wl; have hk := hC.kp; have h1 := hC.fe; have h2 := hC.ce; have h3 := hC.pos; have h4 := hC.fnb; have hb := hF.bl; have hp := hF.pe
 have h := rpush_any X y.vo y.bl y.sz y.pe y.to y.ne y.fl y.hi pp pn pw cp nn9 cn9 cw y.place y.ws (k : Int) (fn : Int) (cnt : Int) m (tqN y m) w0 ⟨by omega, by omega⟩ hp.1 h1.symm ⟨by omega, by omega⟩ ⟨by omega, by omega⟩ h2.symm (by omega) (by omega) hwo (fun e he x hx => ⟨(its_mem (ws_mem hw he).1 hx).1, (its_mem (ws_mem hw he).1 hx).2.1⟩) hm (by unfold tqN; omega) m0
 refine h.mono fun e w' h9 => ?_
 obtain ⟨p, c, h5, h6⟩ := h9
 rw [List.length_map] at h5
 have h7 : (List.map wrD (pushL (fn : Int) (cnt : Int) ((y.ws.take (tqN y m)).drop m))).length = (pwN y fn cnt m).length := List.length_map ..
 rw [h7] at h6
 exact ⟨p, c, h5, h6⟩
theorem rlen_y (y : VolV) (pp pn pw : Option Addr) (np cp nn9 cn9 cw : Nat) (w0 : World) :
   Calls Tryz.prog 37 #[.agg #[.int .i64 y.vo, .int .i64 y.bl, .int .i64 y.sz, .int .i64 y.pe, .slice pp np cp, .int .i64 y.to, .int .i64 y.ne, .bool y.hi, .int .i64 y.fl, .slice pn nn9 cn9, .slice pw (y.ws.map wrD).length cw]] w0 fun e w' => e = .returned (.int .i64 (y.ws.length : Int)) ∧ Below w0.heap.size w0 w' := by
 have h := rlen_any y.vo y.bl y.sz y.pe y.to y.ne y.fl y.hi pp pn pw np cp nn9 cn9 (y.ws.map wrD).length cw w0
 rw [List.length_map] at h
 rw [List.length_map]
 exact h
end Go.Proofs.YteglmahnkfgelaaGreat.K
