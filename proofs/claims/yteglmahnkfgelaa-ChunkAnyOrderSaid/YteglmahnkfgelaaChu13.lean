/- chunk: pushes in any order; a push from ahead is refused. -/
import Derived.Test.YteglmahnkfgelaaChu11
namespace Go.Proofs.Yteglmahnkfgelaa.K
open Go.ChangeShapes Go.WideShapes Go.ChangeAt Go.RowKit
set_option linter.unusedVariables false
set_option linter.unusedSimpArgs false
set_option maxRecDepth 100000
set_option maxHeartbeats 4000000
theorem capply_no (X : Cx) (vo ch cn sz mk fl fr to fl2 : Int) (H : List (List Ver)) (W : List (Int × List (Int × List Int))) (p pw : Option Addr) (nn c nw cw : Nat) (w0 : World) (hok : HB 900000 H) (hH : (H.length : Int) = cn) (hP : PuOk vo ch cn sz fr to fl2 W) (hfm : mk < fr) (m0 : MemOk X w0 [(1, .dat (.slice p nn c) (.l 1 (H.map hD))), (2, .dat (.slice pw nw cw) (.l 2 (W.map wrD)))] w0) :
   Calls Try.prog 10 #[.agg #[.int .i64 vo, .int .i64 ch, .int .i64 cn, .int .i64 sz, .int .i64 mk, .int .i64 fl, .slice p nn c], .agg #[.int .i64 vo, .int .i64 ch, .int .i64 cn, .int .i64 sz, .int .i64 fr, .int .i64 to, .int .i64 fl2, .slice pw nw cw]] w0 fun e w' => ∃ (p9 : Option Addr) (c9 : Nat), e = .returned (.agg #[.int .i64 vo, .int .i64 ch, .int .i64 cn, .int .i64 sz, .int .i64 mk, .int .i64 fl, .slice p9 nn c9]) ∧ MemOk X w0 [(1, .dat (.slice p nn c) (.l 1 (H.map hD))), (2, .dat (.slice pw nw cw) (.l 2 (W.map wrD))), (9, .row (.slice p9 nn c9) 88 1 (H.map hD))] w' := by
 refine ent2 Try.func10 rfl Try.ntmps10 fun Az Hz => ?_
 have hl : H.length ≤ 1000000 := by have := hP.1.2.2.1; omega
 have hok0 := hok.ok
 have hWl := hP.2.2.2.2.1
 have hW := wpre_len hP
 have hnn : nn = H.length := nnOf (m0.rd (i := 1) rfl)
 have hnw : nw = W.length := nnOf (m0.rd (i := 2) rfl)
 revert Hz
 subst hnn; subst hnw
 intro Hz
 refine zsr fun K0 hK0 => ?_
 refine plz (e_box Hz m0 30 (cs := [_, _, _, _, _, _, _]) rfl rfl rfl fun g1 Az w2 Hz m2 _ _ => ?_)
 refine plz (e_box Hz m2 31 (cs := [_, _, _, _, _, _, _, _]) rfl rfl rfl fun g3 Az w4 Hz m4 _ _ => ?_)
 refine plz (e_alloc Hz m4 32 fct6 rfl fun g5 Az w6 Hz m6 _ _ => ?_)
 refine znl (hK0 _ _ ?_)
 refine zsr fun K1 hK1 => ?_
 refine goCh Hz (.loadBR m6 (i := 30) rfl rfl U36 rfl fct4 (by simp) (by dsimp only [List.drop, List.take] <;> rfl) .nil) fun Az Hz => ?_
 refine plz (ecl Hz Try.func29 rfl (pchunk_x _ vo ch cn sz mk fl H _ _ _ hl hok0 (m6.into [(1, 1)] (by decide) rfl)) ?_)
 rintro e w9 ⟨p9, c9, rfl, hm9⟩
 have mx9 := m6.back hm9 [(1, 1), (9, 9)] (by decide); clear hm9 m6
 have m9 := mx9.oz [1, 9, 2, 30, 31, 32]
 refine ⟨_, rfl, ?_⟩; intro Az Hz
 refine plz (stw Hz m9 30 fct4 fun w11 m11 _ => ?_)
 refine znl (hK1 _ _ ?_)
 refine wsk fun K2 hK2 => ?_
 refine wsk fun K3 hK3 => ?_
 have m12 := m11.oz [1, 2, 9, 30, 31, 32]
 refine region_p 25 (B := [(1, _), (2, _), (9, _), (30, _), (31, _), (32, _)]) (m12.to ⟨il, il, il, il, il, il, trivial⟩) m12 (by kernel_rfl) (fun w13 hP13 m13 => ?_); clear m12
 refine goR hP13 [0] [0] 1 0 1 Hz (m13.to ⟨il, il, il, il, il, il, trivial⟩) (.loadBR hh (i := 31) rfl rfl U31 rfl fct3 (by simp) (by dsimp only [List.drop, List.take] <;> rfl) .nil) fun Az Hz => ?_
 refine so 1 ?_
 refine ecl Hz Try.func20 rfl (pright_x _ vo ch cn sz fr to fl2 W _ _ _ _ (by omega) hW (m13.into [(1, 2)] (by decide) rfl)) ?_
 rintro e w15 ⟨bp9, rfl, hbp, hm15⟩
 have mx15 := m13.back hm15 [(2, 1)] (by decide); clear hm15 m13
 have m15 := mx15.oz [2, 1, 9, 30, 31, 32]
 refine ⟨_, rfl, ?_⟩; intro Az Hz
 refine ⟨m15.to ⟨il, il, il, il, il, il, trivial⟩, ?_⟩
 refine goA hP13 [2, 3] 2 3 15 Hz (m15.to ⟨il, il, il, il, il, il, trivial⟩) (.not rfl <| .move rfl .nil) fun Az Hz => ?_
 refine bc Hz 16 ?_ ?_
 · intro hb _; exact absurd hb (by rw [hbp.2 hP]; simp)
 clear Hz; intro _ Hz
 refine goR hP13 [4, 6] [4, 6] 2 15 95 Hz (m15.to ⟨il, il, il, il, il, il, trivial⟩) (.loadBR hh (i := 30) rfl rfl U36 rfl fct4 (by simp) (by dsimp only [List.drop, List.take] <;> rfl) <| .loadBR hh (i := 31) rfl rfl U31 rfl fct3 (by simp) (by dsimp only [List.drop, List.take] <;> rfl) .nil) fun Az Hz => ?_
 refine stepE_only 5 rfl (by kernel_rfl) (wantedG Hz rfl rfl rfl rfl) (fun K hK => ?_)
 refine e_call Hz Try.func30 rfl rfl rfl rfl (shapeof_x _ _ _ _ _ _ _ _) ?_
 rintro e w22 ⟨rfl, hb22⟩
 have m23 := m15.later hb22
 refine ⟨_, rfl, ?_⟩; intro Az Hz
 refine hK _ _ (m23.to ⟨il, il, il, il, il, il, trivial⟩) ?_; clear hK K
 refine stepE_only 7 rfl (by kernel_rfl) (wantedG Hz rfl rfl rfl rfl) (fun K hK => ?_)
 refine e_call Hz Try.func31 rfl rfl rfl rfl (pshape_x _ _ _ _ _ _ _ _ _ _ _) ?_
 rintro e w25 ⟨rfl, hb25⟩
 have m26 := m23.later hb25
 refine ⟨_, rfl, ?_⟩; intro Az Hz
 refine hK _ _ (m26.to ⟨il, il, il, il, il, il, trivial⟩) ?_; clear hK K
 refine goA hP13 [8, 9, 10] 3 255 2047 Hz (m26.to ⟨il, il, il, il, il, il, trivial⟩) (.p (fun _ _ h_ => y_neqH h_ rfl rfl) <| .pickF rfl rfl <| .move rfl .nil) fun Az Hz => ?_
 refine bc Hz 23 ?_ ?_
 · intro hb _; exact absurd hb (by simp)
 clear Hz; intro _ Hz
 refine goR hP13 [11, 12, 13, 14, 15, 16, 17] [12, 14] 7 2047 262143 Hz (m26.to ⟨il, il, il, il, il, il, trivial⟩) (.fa 4 rfl U36 <| .lb hh 30 U2 rfl rfl rfl <| .fa 4 rfl U31 <| .lb hh 31 U2 rfl rfl rfl <| .lss rfl rfl <| .pickF rfl rfl <| .move rfl .nil) fun Az Hz => ?_
 refine bc Hz 30 ?_ ?_
 rotate_left
 · intro hb _; exact absurd hb (by simp; omega)
 clear Hz; intro _ Hz
 refine goA hP13 [18, 19, 20, 21, 22, 23, 24] 7 262143 33554431 Hz (m26.to ⟨il, il, il, il, il, il, trivial⟩) (.s <| .s <| .s <| .s <| .s <| .s <| .pickT rfl rfl .nil) fun Az Hz => ?_
 refine wpAnyE_done (by kernel_rfl) ?_ _
 refine hK3 _ _ ?_
 refine wct Hz ?_
 replace Hz := Hz.oz [2, 3, 4, 36]
 refine zsr fun K4 hK4 => ?_
 refine goCh Hz (.loadBR m26 (i := 30) rfl rfl U36 rfl fct4 (by simp) (by dsimp only [List.drop, List.take] <;> rfl) .nil) fun Az Hz => ?_
 refine plz (stw Hz m26 32 fct4 fun w50 m50 _ => ?_)
 refine znl (hK4 _ _ ?_)
 refine rtd (retC (fn := Try.f10) Hz m50 (i := 32) rfl rfl rfl U36 rfl fct4 ?_)
 exact ⟨_, _, rfl, m50.ren [(1, 1), (2, 2), (9, 9)] (by decide)⟩
theorem gap_x (X : Cx) (y : VolV) (k fn cnt m : Nat) (f : Int) (hC : CkOk y k fn cnt) (hF : VolF y) (hm : m ≤ y.ws.length) (hf : 0 ≤ f ∧ f ≤ m) (mk : Nat) (hmk : mk ≤ y.ws.length) (mi fi ki : Int) (p pw : Option Addr) (c cw : Nat) (w0 : World) (hmi : mi = (m : Int)) (hfi : fi = f) (hki : ki = (mk : Int)) (m0 : MemOk X w0 [(1, .dat (.slice p cnt c) (.l 1 ((chuH y.ws (fn : Int) cnt m f).map hD))), (2, .dat (.slice pw (pwN y fn cnt mk).length cw) (.l 2 ((pwN y fn cnt mk).map wrD)))] w0) :
   Calls Try.prog 10 #[.agg #[.int .i64 y.vo, .int .i64 (k : Int), .int .i64 (cnt : Int), .int .i64 y.sz, .int .i64 mi, .int .i64 fi, .slice p cnt c], .agg #[.int .i64 y.vo, .int .i64 (k : Int), .int .i64 (cnt : Int), .int .i64 y.sz, .int .i64 ki, .int .i64 (tqN y mk : Int), .int .i64 (min y.fl (tqN y mk : Int)), .slice pw (pwN y fn cnt mk).length cw]] w0 fun e w' => ∃ (m2 : Nat) (f2 : Int) (p9 : Option Addr) (c9 : Nat), (m ≤ m2 ∧ m2 ≤ y.ws.length ∧ 0 ≤ f2 ∧ f2 ≤ m2 ∧ (mk ≤ m → tqN y mk ≤ m2)) ∧ e = .returned (.agg #[.int .i64 y.vo, .int .i64 (k : Int), .int .i64 (cnt : Int), .int .i64 y.sz, .int .i64 (m2 : Int), .int .i64 f2, .slice p9 cnt c9]) ∧ MemOk X w0 [(1, .dat (.slice p cnt c) (.l 1 ((chuH y.ws (fn : Int) cnt m f).map hD))), (2, .dat (.slice pw (pwN y fn cnt mk).length cw) (.l 2 ((pwN y fn cnt mk).map wrD))), (9, .row (.slice p9 cnt c9) 88 1 ((chuH y.ws (fn : Int) cnt m2 f2).map hD))] w' := by
 subst hmi hfi hki
 have hl := hF.wl; have hf0 := hF.fl0
 have htq : tqN y mk ≤ y.ws.length := by unfold tqN; omega
 have hcl : (chuH y.ws (fn : Int) cnt m fi).length = cnt := chuH_len _ _ _ _ _
 by_cases h9 : mk ≤ m
 · have h := capply_x X y.vo (k : Int) (cnt : Int) y.sz (m : Int) fi (mk : Int) (tqN y mk : Int) (min y.fl (tqN y mk : Int)) (chuH y.ws (fn : Int) cnt m fi) (pwN y fn cnt mk) p pw cnt c (pwN y fn cnt mk).length cw w0 (chu_hb hF.wr hF.sz.2 (by omega)) (by rw [hcl]) (pw_ok hC hF hmk) (by omega) m0
   have hA := chu_apply hF.wr (by omega) (fi := fn) (fl := fi) (fl2 := max fi (min y.fl (tqN y mk : Int))) (cnt := cnt) (mk := mk) (m := m) (tq := tqN y mk) h9 hm (by omega)
   have hA2 : (applyW (m : Int) (chuH y.ws (fn : Int) cnt m fi) (pwN y fn cnt mk)).map (fun h => pruneF h (max fi (min y.fl (tqN y mk : Int)))) = chuH y.ws (fn : Int) cnt (max m (tqN y mk)) (max fi (min y.fl (tqN y mk : Int))) := hA
   rw [hA2, show max (m : Int) (tqN y mk : Int) = ((max m (tqN y mk) : Nat) : Int) by omega] at h
   refine h.mono fun e w' h8 => ?_
   obtain ⟨p9, c9, h1, h2⟩ := h8
   exact ⟨max m (tqN y mk), _, p9, c9, ⟨by omega, by omega, by omega, by omega, fun _ => by omega⟩, h1, h2⟩
 have h := capply_no X y.vo (k : Int) (cnt : Int) y.sz (m : Int) fi (mk : Int) (tqN y mk : Int) (min y.fl (tqN y mk : Int)) (chuH y.ws (fn : Int) cnt m fi) (pwN y fn cnt mk) p pw cnt c (pwN y fn cnt mk).length cw w0 (chu_hb hF.wr hF.sz.2 (by omega)) (by rw [hcl]) (pw_ok hC hF hmk) (by omega) m0
 refine h.mono fun e w' h8 => ?_
 obtain ⟨p9, c9, h1, h2⟩ := h8
 exact ⟨m, _, p9, c9, ⟨by omega, by omega, by omega, by omega, fun h7 => absurd h7 h9⟩, h1, h2⟩
theorem gnew_f (X : Cx) (y : VolV) (k fn cnt : Nat) (hC : CkOk y k fn cnt) (hF : VolF y) (mi tq fl : Int) (pw : Option Addr) (nw cw : Nat) (w0 : World) (m0 : MemOk X w0 [] w0) :
   Calls Try.prog 8 #[.agg #[.int .i64 y.vo, .int .i64 (k : Int), .int .i64 (cnt : Int), .int .i64 y.sz, .int .i64 mi, .int .i64 tq, .int .i64 fl, .slice pw nw cw]] w0 fun e w' => ∃ (p9 : Option Addr) (c9 : Nat), e = .returned (.agg #[.int .i64 y.vo, .int .i64 (k : Int), .int .i64 (cnt : Int), .int .i64 y.sz, .int .i64 0, .int .i64 0, .slice p9 cnt c9]) ∧ MemOk X w0 [(9, .row (.slice p9 cnt c9) 88 1 ((chuH y.ws (fn : Int) cnt 0 0).map hD))] w' := by
 have h := cnew_x X y.vo (k : Int) y.sz mi tq fl cnt pw nw cw w0 hC.c256 m0
 rw [← chuH_zero y.ws (fn : Int) cnt 0] at h
 exact h
theorem gread_f (X : Cx) (y : VolV) (k fn cnt m : Nat) (f : Int) (hC : CkOk y k fn cnt) (hF : VolF y) (hm : m ≤ y.ws.length) (hf : 0 ≤ f ∧ f ≤ m) (i t : Nat) (p : Option Addr) (c : Nat) (tv : Int) (w0 : World) (S : List (List Int)) (hS : stL y.bl y.sz y.ws t = S) (htv : tv = (t : Int)) (hi : i < cnt) (hft : f ≤ tv) (ht : tv ≤ m) (m0 : MemOk X w0 [(1, .dat (.slice p cnt c) (.l 1 ((chuH y.ws (fn : Int) cnt m f).map hD)))] w0) :
   Calls Try.prog 13 #[.agg #[.int .i64 y.vo, .int .i64 (k : Int), .int .i64 (cnt : Int), .int .i64 y.sz, .int .i64 (m : Int), .int .i64 f, .slice p cnt c], .int .i64 (i : Int), .int .i64 tv] w0 fun e w' => ∃ (p9 : Option Addr) (c9 : Nat), e = .returned (.tuple #[.slice p9 (S.getD (fn + i) []).length c9, .int .i64 0]) ∧ MemOk X w0 [(1, .dat (.slice p cnt c) (.l 1 ((chuH y.ws (fn : Int) cnt m f).map hD))), (9, .dat (.slice p9 (S.getD (fn + i) []).length c9) (.ns .u8 (S.getD (fn + i) [])))] w' := by
 subst htv hS
 have hl := hF.wl; have htop := hC.top
 have hR := chu_read hF.wr (fi := (fn : Int)) (fl := f) (fn := fn) (cnt := cnt) (m := m) (t := t) (i := i) rfl hft (by omega) hi (by omega)
 have hcl : (chuH y.ws (fn : Int) cnt m f).length = cnt := chuH_len _ _ _ _ _
 have hHB : HB 900000 (chuH y.ws (fn : Int) cnt m f) := chu_hb hF.wr hF.sz.2 (by omega)
 rw [← hR]
 have hc2 := hC.c256
 rcases hA : atF ((chuH y.ws (fn : Int) cnt m f).getD i []) t with _ | d
 · have h := cread_none X y.vo (k : Int) (cnt : Int) y.sz (m : Int) f (chuH y.ws (fn : Int) cnt m f) i (t : Int) p c w0 (by omega) hHB.ok (chu_rise hF.wr) (by omega) (by omega) ⟨by have := hF.sz; omega, hF.sz.2⟩ hft ht hA (by rw [hcl]; exact m0)
   rw [hcl] at h
   rw [hA] at h
   exact h
 have h := cread_some X y.vo (k : Int) (cnt : Int) y.sz (m : Int) f (chuH y.ws (fn : Int) cnt m f) i (t : Int) p c w0 (by omega) hHB.ok (chu_rise hF.wr) (by omega) (by omega) ⟨by have := hF.sz; omega, hF.sz.2⟩ hft ht hA (by rw [hcl]; exact m0)
 rw [hcl] at h
 rw [hA] at h
 exact h
theorem gright_f (X : Cx) (y : VolV) (k fn cnt m : Nat) (f : Int) (hC : CkOk y k fn cnt) (hF : VolF y) (hm : m ≤ y.ws.length) (hf : 0 ≤ f ∧ f ≤ m) (p : Option Addr) (c : Nat) (w0 : World) (m0 : MemOk X w0 [(1, .dat (.slice p cnt c) (.l 1 ((chuH y.ws (fn : Int) cnt m f).map hD)))] w0) :
   Calls Try.prog 11 #[.agg #[.int .i64 y.vo, .int .i64 (k : Int), .int .i64 (cnt : Int), .int .i64 y.sz, .int .i64 (m : Int), .int .i64 f, .slice p cnt c]] w0 fun e w' => e = .returned (.bool true) ∧ MemOk X w0 [(1, .dat (.slice p cnt c) (.l 1 ((chuH y.ws (fn : Int) cnt m f).map hD)))] w' := by
 have hl := hF.wl
 have hHB : HB 900000 (chuH y.ws (fn : Int) cnt m f) := chu_hb hF.wr hF.sz.2 (by omega)
 refine (cright_x X y.vo (k : Int) (cnt : Int) y.sz (m : Int) f (chuH y.ws (fn : Int) cnt m f) p cnt c w0 (by rw [chuH_len]; have := hC.c256; omega) hHB.ok m0).mono fun e w' h => ?_
 obtain ⟨b, h1, h2, h3⟩ := h
 exact ⟨by rw [h1, h2.2 (chu_ok hF.wr (hC.sh hF) (by omega) hf)], h3⟩
theorem rstate_f (X : Cx) (y : VolV) (hF : VolF y) (hwo : WrsOk y.ws) (pp pn pw : Option Addr) (np cp nn9 cn9 cw : Nat) (fl tv : Int) (t : Nat) (htt : tv = t) (w0 : World) (hX : ∀ b, b ∉ X.bad) (ht0 : fl ≤ tv) (ht1 : t ≤ y.ws.length) (m0 : MemOk X w0 [(3, .dat (.slice pw (y.ws.map wrD).length cw) (.l 2 (y.ws.map wrD)))] w0) :
   Calls Try.prog 12 #[.agg #[.int .i64 y.vo, .int .i64 y.bl, .int .i64 y.sz, .int .i64 y.pe, .slice pp np cp, .int .i64 y.to, .int .i64 y.ne, .bool y.hi, .int .i64 fl, .slice pn nn9 cn9, .slice pw (y.ws.map wrD).length cw], .int .i64 tv] w0 fun e w' => ∃ p c, e = .returned (.tuple #[.slice p ((stL y.bl y.sz y.ws t).map bD).length c, .int .i64 0]) ∧ MemOk X w0 [(3, .dat (.slice pw (y.ws.map wrD).length cw) (.l 2 (y.ws.map wrD))), (9, .dat (.slice p ((stL y.bl y.sz y.ws t).map bD).length c) (.l 1 ((stL y.bl y.sz y.ws t).map bD)))] w' := by
 subst htt
 have hb := hF.bl; have hz := hF.sz; have hl := hF.wl; have hw := hF.wr
 have h := rstate_any X y.vo y.bl y.sz y.pe y.to y.ne fl y.hi pp pn pw np cp nn9 cn9 cw y.ws t y.bl.toNat y.sz.toNat w0 hX (by omega) hwo (fun e he x hx => by have := its_mem (ws_mem hw he).1 hx; omega) (by omega) (by omega) ht0 ht1 m0
 rw [show ((y.bl.toNat : Nat) : Int) = y.bl by omega, show ((y.sz.toNat : Nat) : Int) = y.sz by omega] at h
 exact h
end Go.Proofs.Yteglmahnkfgelaa.K
