/- chunk: pushes in any order; a push from ahead is refused. -/
import Derived.Test.YteglmahnkfgelaaGreatChu11
namespace Go.Proofs.YteglmahnkfgelaaGreat.K
open Go.ChangeShapes Go.WideShapes Go.ChangeAt Go.RowKit
set_option linter.unusedVariables false
set_option linter.unusedSimpArgs false
set_option maxRecDepth 100000
set_option maxHeartbeats 4000000
theorem capply_no (X : Cx) (vo ch cn sz mk fl fr to fl2 : Int) (H : List (List Ver)) (W : List (Int × List (Int × List Int))) (p pw : Option Addr) (nn c nw cw : Nat) (w0 : World) (hok : HB 900000 H) (hH : (H.length : Int) = cn) (hP : PuOk vo ch cn sz fr to fl2 W) (hfm : mk < fr) (m0 : MemOk X w0 [(1, .dat (.slice p nn c) (.l 1 (H.map hD))), (2, .dat (.slice pw nw cw) (.l 2 (W.map wrD)))] w0) :
   Calls Tryz.prog 17 #[.agg #[.int .i64 vo, .int .i64 ch, .int .i64 cn, .int .i64 sz, .int .i64 mk, .int .i64 fl, .slice p nn c], .agg #[.int .i64 vo, .int .i64 ch, .int .i64 cn, .int .i64 sz, .int .i64 fr, .int .i64 to, .int .i64 fl2, .slice pw nw cw]] w0 fun e w' => ∃ (p9 : Option Addr) (c9 : Nat), e = .returned (.agg #[.int .i64 vo, .int .i64 ch, .int .i64 cn, .int .i64 sz, .int .i64 mk, .int .i64 fl, .slice p9 nn c9]) ∧ MemOk X w0 [(1, .dat (.slice p nn c) (.l 1 (H.map hD))), (2, .dat (.slice pw nw cw) (.l 2 (W.map wrD))), (9, .row (.slice p9 nn c9) 94 1 (H.map hD))] w' := by
 refine ent2 Tryz.func17 rfl Tryz.ntmps17 fun Az Hz => ?_
 have hl : H.length ≤ 1000000 := by have := hP.1.2.2.1; omega
 have hok0 := hok.ok
 have hWl := hP.2.2.2.2.1
 have hW := wpre_len hP
 have hnn : nn = H.length := nnOf (m0.rd (i := 1) rfl)
 have hnw : nw = W.length := nnOf (m0.rd (i := 2) rfl)
 revert Hz
 subst hnn; subst hnw
 intro Hz
 refine zsr fun K0 hK0 => ?_
 refine plz (e_box Hz m0 30 (cs := [_, _, _, _, _, _, _]) rfl rfl rfl fun g1 Az w2 Hz m2 _ _ => ?_)
 refine plz (e_box Hz m2 31 (cs := [_, _, _, _, _, _, _, _]) rfl rfl rfl fun g3 Az w4 Hz m4 _ _ => ?_)
 refine plz (e_alloc Hz m4 32 fct6 rfl fun g5 Az w6 Hz m6 _ _ => ?_)
 refine znl (hK0 _ _ ?_)
 refine zsr fun K1 hK1 => ?_
 refine goCh Hz (.loadBR m6 (i := 30) rfl rfl U39 rfl fct5 (by simp) (by dsimp only [List.drop, List.take] <;> rfl) .nil) fun Az Hz => ?_
 refine plz (ecl Hz Tryz.func51 rfl (pchunk_x _ vo ch cn sz mk fl H _ _ _ hl hok0 (m6.into [(1, 1)] (by decide) rfl)) ?_)
 rintro e w9 ⟨p9, c9, rfl, hm9⟩
 have mx9 := m6.back hm9 [(1, 1), (9, 9)] (by decide); clear hm9 m6
 have m9 := mx9.oz [1, 9, 2, 30, 31, 32]
 refine ⟨_, rfl, ?_⟩; intro Az Hz
 refine plz (stw Hz m9 30 fct5 fun w11 m11 _ => ?_)
 refine znl (hK1 _ _ ?_)
 refine wsk fun K2 hK2 => ?_
 refine wsk fun K3 hK3 => ?_
 have m12 := m11.oz [1, 2, 9, 30, 31, 32]
 refine region_p 25 (B := [(1, _), (2, _), (9, _), (30, _), (31, _), (32, _)]) (m12.to ⟨il, il, il, il, il, il, trivial⟩) m12 (by kernel_rfl) (fun w13 hP13 m13 => ?_); clear m12
 refine goR hP13 [0] [0] 1 0 1 Hz (m13.to ⟨il, il, il, il, il, il, trivial⟩) (.loadBR hh (i := 31) rfl rfl U25 rfl fct7 (by simp) (by dsimp only [List.drop, List.take] <;> rfl) .nil) fun Az Hz => ?_
 refine so 1 ?_
 refine ecl Hz Tryz.func14 rfl (pright_x _ vo ch cn sz fr to fl2 W _ _ _ _ (by omega) hW (m13.into [(1, 2)] (by decide) rfl)) ?_
 rintro e w15 ⟨bp9, rfl, hbp, hm15⟩
 have mx15 := m13.back hm15 [(2, 1)] (by decide); clear hm15 m13
 have m15 := mx15.oz [2, 1, 9, 30, 31, 32]
 refine ⟨_, rfl, ?_⟩; intro Az Hz
 refine ⟨m15.to ⟨il, il, il, il, il, il, trivial⟩, ?_⟩
 refine goA hP13 [2, 3] 2 3 15 Hz (m15.to ⟨il, il, il, il, il, il, trivial⟩) (.not rfl <| .move rfl .nil) fun Az Hz => ?_
 refine bc Hz 16 ?_ ?_
 · intro hb _; exact absurd hb (by rw [hbp.2 hP]; simp)
 clear Hz; intro _ Hz
 refine goR hP13 [4, 6] [4, 6] 2 15 95 Hz (m15.to ⟨il, il, il, il, il, il, trivial⟩) (.loadBR hh (i := 30) rfl rfl U39 rfl fct5 (by simp) (by dsimp only [List.drop, List.take] <;> rfl) <| .loadBR hh (i := 31) rfl rfl U25 rfl fct7 (by simp) (by dsimp only [List.drop, List.take] <;> rfl) .nil) fun Az Hz => ?_
 refine stepE_only 5 rfl (by kernel_rfl) (wantedG Hz rfl rfl rfl rfl) (fun K hK => ?_)
 refine e_call Hz Tryz.func52 rfl rfl rfl rfl (shapeof_x _ _ _ _ _ _ _ _) ?_
 rintro e w22 ⟨rfl, hb22⟩
 have m23 := m15.later hb22
 refine ⟨_, rfl, ?_⟩; intro Az Hz
 refine hK _ _ (m23.to ⟨il, il, il, il, il, il, trivial⟩) ?_; clear hK K
 refine stepE_only 7 rfl (by kernel_rfl) (wantedG Hz rfl rfl rfl rfl) (fun K hK => ?_)
 refine e_call Hz Tryz.func44 rfl rfl rfl rfl (pshape_x _ _ _ _ _ _ _ _ _ _ _) ?_
 rintro e w25 ⟨rfl, hb25⟩
 have m26 := m23.later hb25
 refine ⟨_, rfl, ?_⟩; intro Az Hz
 refine hK _ _ (m26.to ⟨il, il, il, il, il, il, trivial⟩) ?_; clear hK K
 refine goA hP13 [8, 9, 10] 3 255 2047 Hz (m26.to ⟨il, il, il, il, il, il, trivial⟩) (.p (fun _ _ h_ => y_neqH h_ rfl rfl) <| .pickF rfl rfl <| .move rfl .nil) fun Az Hz => ?_
 refine bc Hz 23 ?_ ?_
 · intro hb _; exact absurd hb (by simp)
 clear Hz; intro _ Hz
 refine goR hP13 [11, 12, 13, 14, 15, 16, 17] [12, 14] 7 2047 262143 Hz (m26.to ⟨il, il, il, il, il, il, trivial⟩) (.fa 4 rfl U39 <| .lb hh 30 U2 rfl rfl rfl <| .fa 4 rfl U25 <| .lb hh 31 U2 rfl rfl rfl <| .lss rfl rfl <| .pickF rfl rfl <| .move rfl .nil) fun Az Hz => ?_
 refine bc Hz 30 ?_ ?_
 rotate_left
 · intro hb _; exact absurd hb (by simp; omega)
 clear Hz; intro _ Hz
 refine goA hP13 [18, 19, 20, 21, 22, 23, 24] 7 262143 33554431 Hz (m26.to ⟨il, il, il, il, il, il, trivial⟩) (.s <| .s <| .s <| .s <| .s <| .s <| .pickT rfl rfl .nil) fun Az Hz => ?_
 refine wpAnyE_done (by kernel_rfl) ?_ _
 refine hK3 _ _ ?_
 refine wct Hz ?_
 replace Hz := Hz.oz [2, 3, 4]
 refine zsr fun K4 hK4 => ?_
 refine goCh Hz (.loadBR m26 (i := 30) rfl rfl U39 rfl fct5 (by simp) (by dsimp only [List.drop, List.take] <;> rfl) .nil) fun Az Hz => ?_
 refine plz (stw Hz m26 32 fct5 fun w50 m50 _ => ?_)
 refine znl (hK4 _ _ ?_)
 refine rtd (retC (fn := Tryz.f17) Hz m50 (i := 32) rfl rfl rfl U39 rfl fct5 ?_)
 exact ⟨_, _, rfl, m50.ren [(1, 1), (2, 2), (9, 9)] (by decide)⟩
theorem gread_f (X : Cx) (y : VolV) (k fn cnt m : Nat) (f : Int) (hC : CkOk y k fn cnt) (hF : VolF y) (hm : m ≤ y.ws.length) (hf : 0 ≤ f ∧ f ≤ m) (i t : Nat) (p : Option Addr) (c : Nat) (tv : Int) (w0 : World) (S : List (List Int)) (hS : stL y.bl y.sz y.ws t = S) (htv : tv = (t : Int)) (hi : i < cnt) (hft : f ≤ tv) (ht : tv ≤ m) (m0 : MemOk X w0 [(1, .dat (.slice p cnt c) (.l 1 ((chuH y.ws (fn : Int) cnt m f).map hD)))] w0) :
   Calls Tryz.prog 33 #[.agg #[.int .i64 y.vo, .int .i64 (k : Int), .int .i64 (cnt : Int), .int .i64 y.sz, .int .i64 (m : Int), .int .i64 f, .slice p cnt c], .int .i64 (i : Int), .int .i64 tv] w0 fun e w' => ∃ (p9 : Option Addr) (c9 : Nat), e = .returned (.tuple #[.slice p9 (S.getD (fn + i) []).length c9, .int .i64 0]) ∧ MemOk X w0 [(1, .dat (.slice p cnt c) (.l 1 ((chuH y.ws (fn : Int) cnt m f).map hD))), (9, .dat (.slice p9 (S.getD (fn + i) []).length c9) (.ns .u8 (S.getD (fn + i) [])))] w' := by
 subst htv hS
 have hl := hF.wl; have htop := hC.top
 have hR := chu_read hF.wr (fi := (fn : Int)) (fl := f) (fn := fn) (cnt := cnt) (m := m) (t := t) (i := i) rfl hft (by omega) hi (by omega)
 have hcl : (chuH y.ws (fn : Int) cnt m f).length = cnt := chuH_len _ _ _ _ _
 have hHB : HB 900000 (chuH y.ws (fn : Int) cnt m f) := chu_hb hF.wr hF.sz.2 (by omega)
 rw [← hR]
 have hc2 := hC.c256
 rcases hA : atF ((chuH y.ws (fn : Int) cnt m f).getD i []) t with _ | d
 · have h := cread_none X y.vo (k : Int) (cnt : Int) y.sz (m : Int) f (chuH y.ws (fn : Int) cnt m f) i (t : Int) p c w0 (by omega) hHB.ok (chu_rise hF.wr) (by omega) (by omega) ⟨by have := hF.sz; omega, hF.sz.2⟩ hft ht hA (by rw [hcl]; exact m0)
   rw [hcl] at h
   rw [hA] at h
   exact h
 have h := cread_some X y.vo (k : Int) (cnt : Int) y.sz (m : Int) f (chuH y.ws (fn : Int) cnt m f) i (t : Int) p c w0 (by omega) hHB.ok (chu_rise hF.wr) (by omega) (by omega) ⟨by have := hF.sz; omega, hF.sz.2⟩ hft ht hA (by rw [hcl]; exact m0)
 rw [hcl] at h
 rw [hA] at h
 exact h
end Go.Proofs.YteglmahnkfgelaaGreat.K
