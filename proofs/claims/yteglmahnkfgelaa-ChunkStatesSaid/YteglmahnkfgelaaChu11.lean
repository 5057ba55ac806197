/- chunk: the contracts at a volume's chunk. -/
import Derived.Test.YteglmahnkfgelaaChuP
namespace Go.Proofs.Yteglmahnkfgelaa.K
open Go.ChangeShapes Go.WideShapes Go.ChangeAt Go.RowKit
set_option linter.unusedVariables false
set_option linter.unusedSimpArgs false
set_option maxRecDepth 100000
set_option maxHeartbeats 4000000
theorem gpush_x (X : Cx) (y : VolV) (k fn cnt m : Nat) (hC : CkOk y k fn cnt) (hF : VolF y) (hwo : WrsOk y.ws) (pp pn pw : Option Addr) (cp nn9 cn9 cw : Nat) (mi : Int) (w0 : World) (hmi : mi = (m : Int)) (hm : m ≤ y.ws.length) (m0 : MemOk X w0 [(3, .dat (.slice pw (y.ws.map wrD).length cw) (.l 2 (y.ws.map wrD)))] w0) :
   Calls Try.prog 7 #[.agg #[.int .i64 y.vo, .int .i64 y.bl, .int .i64 y.sz, .int .i64 y.pe, .slice pp y.place.length cp, .int .i64 y.to, .int .i64 y.ne, .bool y.hi, .int .i64 y.fl, .slice pn nn9 cn9, .slice pw (y.ws.map wrD).length cw], .int .i64 (k : Int), .int .i64 mi] w0 fun e w' => ∃ (p : Option Addr) (c : Nat), e = .returned (.tuple #[.agg #[.int .i64 y.vo, .int .i64 (k : Int), .int .i64 (cnt : Int), .int .i64 y.sz, .int .i64 mi, .int .i64 (tqN y m : Int), .int .i64 (min y.fl (tqN y m : Int)), .slice p (pwN y fn cnt m).length c], .bool true]) ∧ MemOk X w0 [(3, .dat (.slice pw (y.ws.map wrD).length cw) (.l 2 (y.ws.map wrD))), (9, .dat (.slice p (pwN y fn cnt m).length c) (.l 2 ((pwN y fn cnt m).map wrD)))] w' := by
 subst hmi
 have hw := hF.wr; have hl := hF.wl; have hk := hC.kp; have h1 := hC.fe; have h2 := hC.ce; have h3 := hC.pos; have h4 := hC.fnb; have hb := hF.bl; have hp := hF.pe
 have h := rpush_any X y.vo y.bl y.sz y.pe y.to y.ne y.fl y.hi pp pn pw cp nn9 cn9 cw y.place y.ws (k : Int) (fn : Int) (cnt : Int) m (tqN y m) w0 ⟨by omega, by omega⟩ hp.1 h1.symm ⟨by omega, by omega⟩ ⟨by omega, by omega⟩ h2.symm (by omega) (by omega) hwo (fun e he x hx => ⟨(its_mem (ws_mem hw he).1 hx).1, (its_mem (ws_mem hw he).1 hx).2.1⟩) hm (by unfold tqN; omega) m0
 refine h.mono fun e w' h9 => ?_
 obtain ⟨p, c, h5, h6⟩ := h9
 rw [List.length_map] at h5
 have h7 : (List.map wrD (pushL (fn : Int) (cnt : Int) ((y.ws.take (tqN y m)).drop m))).length = (pwN y fn cnt m).length := List.length_map ..
 rw [h7] at h6
 exact ⟨p, c, h5, h6⟩
theorem gnew_x (X : Cx) (y : VolV) (k fn cnt m : Nat) (hC : CkOk y k fn cnt) (hF : VolF y) (mi tq fl : Int) (pw : Option Addr) (nw cw : Nat) (w0 : World) (m0 : MemOk X w0 [] w0) :
   Calls Try.prog 8 #[.agg #[.int .i64 y.vo, .int .i64 (k : Int), .int .i64 (cnt : Int), .int .i64 y.sz, .int .i64 mi, .int .i64 tq, .int .i64 fl, .slice pw nw cw]] w0 fun e w' => ∃ (p9 : Option Addr) (c9 : Nat), e = .returned (.agg #[.int .i64 y.vo, .int .i64 (k : Int), .int .i64 (cnt : Int), .int .i64 y.sz, .int .i64 0, .int .i64 0, .slice p9 cnt c9]) ∧ MemOk X w0 [(9, .row (.slice p9 cnt c9) 88 1 ((chN y fn cnt 0).map hD))] w' := by
 have h := cnew_x X y.vo (k : Int) y.sz mi tq fl cnt pw nw cw w0 hC.c256 m0
 rw [← chuH_zero y.ws (fn : Int) cnt (min y.fl ((0 : Nat) : Int))] at h
 exact h
theorem gapply_x (X : Cx) (y : VolV) (k fn cnt m : Nat) (hC : CkOk y k fn cnt) (hF : VolF y) (mi fi : Int) (p pw : Option Addr) (c cw : Nat) (w0 : World) (hmi : mi = (m : Int)) (hfi : fi = min y.fl (m : Int)) (hm : m ≤ y.ws.length) (m0 : MemOk X w0 [(1, .dat (.slice p cnt c) (.l 1 ((chN y fn cnt m).map hD))), (2, .dat (.slice pw (pwN y fn cnt m).length cw) (.l 2 ((pwN y fn cnt m).map wrD)))] w0) :
   Calls Try.prog 10 #[.agg #[.int .i64 y.vo, .int .i64 (k : Int), .int .i64 (cnt : Int), .int .i64 y.sz, .int .i64 mi, .int .i64 fi, .slice p cnt c], .agg #[.int .i64 y.vo, .int .i64 (k : Int), .int .i64 (cnt : Int), .int .i64 y.sz, .int .i64 mi, .int .i64 (tqN y m : Int), .int .i64 (min y.fl (tqN y m : Int)), .slice pw (pwN y fn cnt m).length cw]] w0 fun e w' => ∃ (p9 : Option Addr) (c9 : Nat), e = .returned (.agg #[.int .i64 y.vo, .int .i64 (k : Int), .int .i64 (cnt : Int), .int .i64 y.sz, .int .i64 (tqN y m : Int), .int .i64 (min y.fl (tqN y m : Int)), .slice p9 cnt c9]) ∧ MemOk X w0 [(1, .dat (.slice p cnt c) (.l 1 ((chN y fn cnt m).map hD))), (2, .dat (.slice pw (pwN y fn cnt m).length cw) (.l 2 ((pwN y fn cnt m).map wrD))), (9, .row (.slice p9 cnt c9) 88 1 ((chN y fn cnt (tqN y m)).map hD))] w' := by
 subst hmi hfi
 have hl := hF.wl
 have h := capply_x X y.vo (k : Int) (cnt : Int) y.sz (m : Int) (min y.fl (m : Int)) (m : Int) (tqN y m : Int) (min y.fl (tqN y m : Int)) (chN y fn cnt m) (pwN y fn cnt m) p pw cnt c (pwN y fn cnt m).length cw w0 (chu_hb hF.wr hF.sz.2 (by omega)) (by rw [chN_len]) (pw_ok hC hF hm) (Int.le_refl _) m0
 rw [show max (m : Int) (tqN y m : Int) = (tqN y m : Int) by unfold tqN; omega, show max (min y.fl (m : Int)) (min y.fl (tqN y m : Int)) = min y.fl (tqN y m : Int) by unfold tqN; omega, ch_apply hC hF hm] at h
 exact h
theorem gread_x (X : Cx) (y : VolV) (k fn cnt m : Nat) (hC : CkOk y k fn cnt) (hF : VolF y) (fi : Int) (i : Nat) (t : Nat) (p : Option Addr) (c : Nat) (w0 : World) (hfi : fi = y.fl) (hm : m = y.ws.length) (hi : i < cnt) (hf : y.fl ≤ t) (ht : t ≤ y.ws.length) (m0 : MemOk X w0 [(1, .dat (.slice p cnt c) (.l 1 ((chN y fn cnt m).map hD)))] w0) :
   Calls Try.prog 13 #[.agg #[.int .i64 y.vo, .int .i64 (k : Int), .int .i64 (cnt : Int), .int .i64 y.sz, .int .i64 (m : Int), .int .i64 fi, .slice p cnt c], .int .i64 (i : Int), .int .i64 (t : Int)] w0 fun e w' => ∃ (p9 : Option Addr) (c9 : Nat), e = .returned (.tuple #[.slice p9 ((stL y.bl y.sz y.ws t).getD (fn + i) []).length c9, .int .i64 0]) ∧ MemOk X w0 [(1, .dat (.slice p cnt c) (.l 1 ((chN y fn cnt m).map hD))), (9, .dat (.slice p9 ((stL y.bl y.sz y.ws t).getD (fn + i) []).length c9) (.ns .u8 ((stL y.bl y.sz y.ws t).getD (fn + i) [])))] w' := by
 subst hfi hm
 have hl := hF.wl; have htop := hC.top; have hf1 := hF.fl1
 have hR := chu_read hF.wr (fi := (fn : Int)) (fl := min y.fl (y.ws.length : Int)) (fn := fn) (cnt := cnt) (m := y.ws.length) (t := t) (i := i) rfl (by omega) ht hi (by omega)
 have hcl := chN_len y fn cnt y.ws.length
 have hHB : HB 900000 (chN y fn cnt y.ws.length) := chu_hb hF.wr hF.sz.2 (by omega)
 rw [← hR]
 have hc2 := hC.c256
 rcases hA : atF ((chN y fn cnt y.ws.length).getD i []) t with _ | d
 · have h := cread_none X y.vo (k : Int) (cnt : Int) y.sz (y.ws.length : Int) y.fl (chN y fn cnt y.ws.length) i (t : Int) p c w0 (by omega) hHB.ok (chu_rise hF.wr) (by omega) (by omega) ⟨by have := hF.sz; omega, hF.sz.2⟩ hf (by omega) hA (by rw [hcl]; exact m0)
   rw [hcl] at h
   exact h
 have h := cread_some X y.vo (k : Int) (cnt : Int) y.sz (y.ws.length : Int) y.fl (chN y fn cnt y.ws.length) i (t : Int) p c w0 (by omega) hHB.ok (chu_rise hF.wr) (by omega) (by omega) ⟨by have := hF.sz; omega, hF.sz.2⟩ hf (by omega) hA (by rw [hcl]; exact m0)
 rw [hcl] at h
 exact h
theorem gright_x (X : Cx) (y : VolV) (k fn cnt m : Nat) (hC : CkOk y k fn cnt) (hF : VolF y) (fi : Int) (p : Option Addr) (c : Nat) (w0 : World) (hfi : fi = min y.fl (m : Int)) (hm : m ≤ y.ws.length) (m0 : MemOk X w0 [(1, .dat (.slice p cnt c) (.l 1 ((chN y fn cnt m).map hD)))] w0) :
   Calls Try.prog 11 #[.agg #[.int .i64 y.vo, .int .i64 (k : Int), .int .i64 (cnt : Int), .int .i64 y.sz, .int .i64 (m : Int), .int .i64 fi, .slice p cnt c]] w0 fun e w' => e = .returned (.bool true) ∧ MemOk X w0 [(1, .dat (.slice p cnt c) (.l 1 ((chN y fn cnt m).map hD)))] w' := by
 subst hfi
 have hl := hF.wl; have hf0 := hF.fl0
 have hHB : HB 900000 (chN y fn cnt m) := chu_hb hF.wr hF.sz.2 (by omega)
 refine (cright_x X y.vo (k : Int) (cnt : Int) y.sz (m : Int) (min y.fl (m : Int)) (chN y fn cnt m) p cnt c w0 (by rw [chN_len]; have := hC.c256; omega) hHB.ok m0).mono fun e w' h => ?_
 obtain ⟨b, h1, h2, h3⟩ := h
 exact ⟨by rw [h1, h2.2 (chu_ok hF.wr (hC.sh hF) (by omega) ⟨by omega, by omega⟩)], h3⟩
theorem rlen_y (y : VolV) (pp pn pw : Option Addr) (np cp nn9 cn9 cw : Nat) (w0 : World) :
   Calls Try.prog 9 #[.agg #[.int .i64 y.vo, .int .i64 y.bl, .int .i64 y.sz, .int .i64 y.pe, .slice pp np cp, .int .i64 y.to, .int .i64 y.ne, .bool y.hi, .int .i64 y.fl, .slice pn nn9 cn9, .slice pw (y.ws.map wrD).length cw]] w0 fun e w' => e = .returned (.int .i64 (y.ws.length : Int)) ∧ Below w0.heap.size w0 w' := by
 have h := rlen_any y.vo y.bl y.sz y.pe y.to y.ne y.fl y.hi pp pn pw np cp nn9 cn9 (y.ws.map wrD).length cw w0
 rw [List.length_map] at h
 rw [List.length_map]
 exact h
theorem rstate_q (X : Cx) (y : VolV) (hF : VolF y) (hwo : WrsOk y.ws) (pp pn pw : Option Addr) (np cp nn9 cn9 cw : Nat) (tv : Int) (t : Nat) (htt : tv = t) (w0 : World) (hX : ∀ b, b ∉ X.bad) (ht0 : y.fl ≤ tv) (ht1 : t ≤ y.ws.length) (m0 : MemOk X w0 [(3, .dat (.slice pw (y.ws.map wrD).length cw) (.l 2 (y.ws.map wrD)))] w0) :
   Calls Try.prog 12 #[.agg #[.int .i64 y.vo, .int .i64 y.bl, .int .i64 y.sz, .int .i64 y.pe, .slice pp np cp, .int .i64 y.to, .int .i64 y.ne, .bool y.hi, .int .i64 y.fl, .slice pn nn9 cn9, .slice pw (y.ws.map wrD).length cw], .int .i64 tv] w0 fun e w' => ∃ p c, e = .returned (.tuple #[.slice p ((stL y.bl y.sz y.ws t).map bD).length c, .int .i64 0]) ∧ MemOk X w0 [(3, .dat (.slice pw (y.ws.map wrD).length cw) (.l 2 (y.ws.map wrD))), (9, .dat (.slice p ((stL y.bl y.sz y.ws t).map bD).length c) (.l 1 ((stL y.bl y.sz y.ws t).map bD)))] w' := by
 subst htt
 have hb := hF.bl; have hz := hF.sz; have hl := hF.wl; have hw := hF.wr
 have h := rstate_any X y.vo y.bl y.sz y.pe y.to y.ne y.fl y.hi pp pn pw np cp nn9 cn9 cw y.ws t y.bl.toNat y.sz.toNat w0 hX (by omega) hwo (fun e he x hx => by have := its_mem (ws_mem hw he).1 hx; omega) (by omega) (by omega) ht0 ht1 m0
 rw [show ((y.bl.toNat : Nat) : Int) = y.bl by omega, show ((y.sz.toNat : Nat) : Int) = y.sz by omega] at h
 exact h
end Go.Proofs.Yteglmahnkfgelaa.K
