/- chunk: the seat's Chunk of a volume. -/
import Derived.Test.YteglmahnkfgelaaGreatChu11
import Derived.Test.YteglmahnkfgelaaGreatChz3
import Derived.Test.YteglmahnkfgelaaGreatChz2
namespace Go.Proofs.YteglmahnkfgelaaGreat.K
open Go.ChangeShapes Go.WideShapes Go.ChangeAt Go.RowKit
set_option linter.unusedVariables false
set_option linter.unusedSimpArgs false
set_option maxRecDepth 100000
set_option maxHeartbeats 4000000
theorem znew_c (X : Cx) (y : VolV) (k fn cnt : Nat) (hC : CkOk y k fn cnt) (hF : VolF y) (mi tq fl : Int) (pw : Option Addr) (nw cw : Nat) (w0 : World) (m0 : MemOk X w0 [] w0) :
   Calls Tryz.prog 22 #[.agg #[.int .i64 y.vo, .int .i64 (k : Int), .int .i64 (cnt : Int), .int .i64 y.sz, .int .i64 mi, .int .i64 tq, .int .i64 fl, .slice pw nw cw]] w0 fun e w' => ∃ (p9 : Option Addr) (c9 : Nat), e = .returned (.agg #[.int .i64 y.vo, .int .i64 (k : Int), .int .i64 (cnt : Int), .int .i64 y.sz, .int .i64 0, .int .i64 0, .slice p9 cnt c9]) ∧ MemOk X w0 [(9, .row (.slice p9 cnt c9) 94 1 ((chN y fn cnt 0).map hD))] w' := by
 have h := znew_x X y.vo (k : Int) y.sz mi tq fl cnt pw nw cw w0 hC.c256 m0
 rw [← chuH_zero y.ws (fn : Int) cnt (min y.fl ((0 : Nat) : Int))] at h
 exact h
theorem zapply_c (X : Cx) (y : VolV) (k fn cnt m : Nat) (hC : CkOk y k fn cnt) (hF : VolF y) (mi fi : Int) (p pw : Option Addr) (c cw : Nat) (w0 : World) (hmi : mi = (m : Int)) (hfi : fi = min y.fl (m : Int)) (hm : m ≤ y.ws.length) (m0 : MemOk X w0 [(1, .dat (.slice p cnt c) (.l 1 ((chN y fn cnt m).map hD))), (2, .dat (.slice pw (pwN y fn cnt m).length cw) (.l 2 ((pwN y fn cnt m).map wrD)))] w0) :
   Calls Tryz.prog 18 #[.agg #[.int .i64 y.vo, .int .i64 (k : Int), .int .i64 (cnt : Int), .int .i64 y.sz, .int .i64 mi, .int .i64 fi, .slice p cnt c], .agg #[.int .i64 y.vo, .int .i64 (k : Int), .int .i64 (cnt : Int), .int .i64 y.sz, .int .i64 mi, .int .i64 (tqN y m : Int), .int .i64 (min y.fl (tqN y m : Int)), .slice pw (pwN y fn cnt m).length cw]] w0 fun e w' => ∃ (p9 : Option Addr) (c9 : Nat), e = .returned (.agg #[.int .i64 y.vo, .int .i64 (k : Int), .int .i64 (cnt : Int), .int .i64 y.sz, .int .i64 (tqN y m : Int), .int .i64 (min y.fl (tqN y m : Int)), .slice p9 cnt c9]) ∧ MemOk X w0 [(1, .dat (.slice p cnt c) (.l 1 ((chN y fn cnt m).map hD))), (2, .dat (.slice pw (pwN y fn cnt m).length cw) (.l 2 ((pwN y fn cnt m).map wrD))), (9, .row (.slice p9 cnt c9) 94 1 ((chN y fn cnt (tqN y m)).map hD))] w' := by
 subst hmi hfi
 have hl := hF.wl
 have h := zapply_x X y.vo (k : Int) (cnt : Int) y.sz (m : Int) (min y.fl (m : Int)) (m : Int) (tqN y m : Int) (min y.fl (tqN y m : Int)) (chN y fn cnt m) (pwN y fn cnt m) p pw cnt c (pwN y fn cnt m).length cw w0 (chu_hb hF.wr hF.sz.2 (by omega)) (by rw [chN_len]) (pw_ok hC hF hm) (Int.le_refl _) m0
 rw [show max (m : Int) (tqN y m : Int) = (tqN y m : Int) by unfold tqN; omega, show max (min y.fl (m : Int)) (min y.fl (tqN y m : Int)) = min y.fl (tqN y m : Int) by unfold tqN; omega, ch_apply hC hF hm] at h
 exact h
theorem zchunk_x (X : Cx) (y : VolV) (k fn cnt : Nat) (hC : CkOk y k fn cnt) (hF : VolF y) (hwo : WrsOk y.ws) (pp pn pw : Option Addr) (cp nn9 cn9 cw : Nat) (mark : Int) (w0 : World) (m0 : MemOk X w0 [(3, .dat (.slice pw (y.ws.map wrD).length cw) (.l 2 (y.ws.map wrD)))] w0) :
   Calls Tryz.prog 10 #[.agg #[.int .i64 y.vo, .int .i64 y.bl, .int .i64 y.sz, .int .i64 y.pe, .slice pp y.place.length cp, .int .i64 y.to, .int .i64 y.ne, .bool y.hi, .int .i64 y.fl, .slice pn nn9 cn9, .slice pw (y.ws.map wrD).length cw], .int .i64 (k : Int), .int .i64 mark] w0 fun e w' => ∃ (m : Nat) (pc : Option Addr) (cc : Nat), m ≤ y.ws.length ∧ (mark ≤ (m : Int) ∨ m = y.ws.length) ∧ e = .returned (.agg #[.int .i64 y.vo, .int .i64 (k : Int), .int .i64 (cnt : Int), .int .i64 y.sz, .int .i64 (m : Int), .int .i64 (min y.fl (m : Int)), .slice pc cnt cc]) ∧ MemOk X w0 [(3, .dat (.slice pw (y.ws.map wrD).length cw) (.l 2 (y.ws.map wrD))), (9, .dat (.slice pc cnt cc) (.l 1 ((chN y fn cnt m).map hD)))] w' := by
 refine ent3 Tryz.func10 rfl Tryz.ntmps10 fun Az Hz => ?_
 have hf0 := hF.fl0
 refine zsr fun K0 hK0 => ?_
 refine plz (e_box Hz m0 60 (cs := [_, _, _, _, _, _, _, _, _, _, _]) rfl rfl rfl fun g1 Az w2 Hz m2 _ _ => ?_)
 refine plz (e_alloc Hz m2 61 fct6 rfl fun g3 Az w4 Hz m4 _ _ => ?_)
 refine znl (hK0 _ _ ?_)
 refine zsr fun K1 hK1 => ?_
 refine goCh Hz (.loadBR m4 (i := 60) rfl rfl U34 rfl fct24 (by simp) (by dsimp only [List.drop, List.take] <;> rfl) <| .move rfl .nil) fun Az Hz => ?_
 refine plz (ecl Hz Tryz.func36 rfl (gpush_x _ y k fn cnt 0 hC hF hwo _ _ _ _ _ _ _ _ _ rfl (Nat.zero_le _) (m4.into [(3, 3)] (by decide) rfl)) ?_)
 rintro e w9 ⟨p9, c9, rfl, hm9⟩
 have mx9 := m4.back hm9 [(3, 3), (62, 9)] (by decide); clear hm9 m4
 have m9 := mx9.oz [3, 62, 60, 61]
 refine ⟨_, rfl, ?_⟩; intro Az Hz
 refine goCh Hz (.move rfl <| .extract rfl rfl <| .extract rfl rfl .nil) fun Az Hz => ?_
 refine plz (e_alloc Hz m9 63 fct16 rfl fun g14 Az w15 Hz m15 _ _ => ?_)
 refine plz (stw Hz m15 63 fct7 fun w16 m16 _ => ?_)
 refine gz hK1 Hz (.assign rfl .nil) fun Az Hz => ?_
 replace Hz := Hz.oz [1, 2, 3, 6, 7, 8]
 refine zsr fun K2 hK2 => ?_
 refine goCh Hz (.loadBR m16 (i := 63) rfl rfl U25 rfl fct7 (by simp) (by dsimp only [List.drop, List.take] <;> rfl) .nil) fun Az Hz => ?_
 refine plz (ecl Hz Tryz.func22 rfl (znew_c _ y k fn cnt hC hF _ _ _ _ _ _ _ (m16.into [] (by decide) rfl)) ?_)
 rintro e w21 ⟨p21, c21, rfl, hm21⟩
 have mx21 := m16.back hm21 [(64, 9)] (by decide); clear hm21 m16
 have m21 := mx21.oz [64, 3, 60, 61, 62, 63]
 refine ⟨_, rfl, ?_⟩; intro Az Hz
 refine plz (e_alloc Hz m21 65 fct6 rfl fun g23 Az w24 Hz m24 _ _ => ?_)
 refine plz (stw Hz m24 65 fct5 fun w25 m25 _ => ?_)
 refine znl (hK2 _ _ ?_)
 refine wsk fun K3 hK3 => ?_
 refine wp_block ?_
 have m26 := m25.freezeR 64 rfl
 refine wp_loop_ghost (fun g a w => ∃ (m B3 B6 B7 B9 : Nat) (pc : Option Addr) (cc : Nat) (a1 a2 a3 a4 a5 a6 a7 : Int) (pq : Option Addr) (nq cq : Nat), m ≤ y.ws.length ∧ g = y.ws.length - m ∧ Has 44 [(1, .int .i64 (k : Int)), (2, .int .i64 mark), (3, .pointer (some ⟨B3, 0, none⟩)), (6, .pointer (some ⟨B6, 0, none⟩)), (7, .pointer (some ⟨B7, 0, none⟩)), (8, .bool true), (9, .pointer (some ⟨B9, 0, none⟩))] a ∧ MemOk X w0 [(3, .dat (.slice pw (y.ws.map wrD).length cw) (.l 2 (y.ws.map wrD))), (20, .box B3 34 [.int .i64 y.vo, .int .i64 y.bl, .int .i64 y.sz, .int .i64 y.pe, .slice pp y.place.length cp, .int .i64 y.to, .int .i64 y.ne, .bool y.hi, .int .i64 y.fl, .slice pn nn9 cn9, .slice pw (y.ws.map wrD).length cw]), (21, .box B6 39 [.int .i64 0, .int .i64 0, .int .i64 0, .int .i64 0, .int .i64 0, .int .i64 0, .slice none 0 0]), (22, .box B7 25 [.int .i64 a1, .int .i64 a2, .int .i64 a3, .int .i64 a4, .int .i64 a5, .int .i64 a6, .int .i64 a7, .slice pq nq cq]), (25, .box B9 39 [.int .i64 y.vo, .int .i64 (k : Int), .int .i64 (cnt : Int), .int .i64 y.sz, .int .i64 (m : Nat), .int .i64 (min y.fl (m : Nat)), .slice pc cnt cc]), (26, .dat (.slice pc cnt cc) (.l 1 ((chN y fn cnt m).map hD)))] w) (y.ws.length) ?_ ?_
 · have hz0 : min y.fl ((0 : Nat) : Int) = 0 := by omega
   exact ⟨0, _, _, _, _, _, _, _, _, _, _, _, _, _, _, _, _, Nat.zero_le _, rfl, Hz.only [1, 2, 3, 6, 7, 8, 9], by rw [hz0]; exact m26.ren [(3, 3), (20, 60), (21, 61), (22, 63), (25, 65), (26, 64)] (by decide)⟩
 clear Hz m26
 rintro g Az w27 ⟨m, B3, B6, B7, B9, pc, cc, a1, a2, a3, a4, a5, a6, a7, pq, nq, cq, hmn, hg, Hz, m27⟩
 refine wsk fun K4 hK4 => ?_
 refine wsk fun K5 hK5 => ?_
 have m28 := m27.oz [3, 20, 21, 22, 25, 26]
 refine region_p 14 (B := [(3, _), (20, _), (21, _), (22, _), (25, _), (26, _)]) (m28.to ⟨il, il, il, il, il, il, trivial⟩) m28 (by kernel_rfl) (fun w29 hP29 m29 => ?_); clear m28
 refine goR hP29 [0, 1, 2, 3, 4, 5, 6, 7] [3] 8 0 255 Hz (m29.to ⟨il, il, il, il, il, il, trivial⟩) (.move rfl <| .move rfl <| .fa 4 rfl U39 <| .lb hh 25 U2 rfl rfl rfl <| .move rfl <| .lss rfl rfl <| .pickT rfl rfl <| .move rfl .nil) fun Az Hz => ?_
 refine bc Hz 25 ?_ ?_
 ·
  intro hb38 Hz; try simp only [QQ, Qax] at hb38
  have hlm : (m : Int) < mark := by have := hb38; first | omega | (simp at this; omega)
  refine goR hP29 [8, 9, 10] [9, 10] 3 255 2047 Hz (m29.to ⟨il, il, il, il, il, il, trivial⟩) (.fa 4 rfl U39 <| .lb hh 25 U2 rfl rfl rfl <| .loadBR hh (i := 20) rfl rfl U34 rfl fct24 (by simp) (by dsimp only [List.drop, List.take] <;> rfl) .nil) fun Az Hz => ?_
  refine stepE_only 11 rfl (by kernel_rfl) (wantedG Hz rfl rfl rfl rfl) (fun K hK => ?_)
  refine e_call Hz Tryz.func37 rfl rfl rfl rfl (rlen_y y _ _ _ _ _ _ _ _ _) ?_
  rintro e w42 ⟨rfl, hb42⟩
  have m43 := m29.later hb42
  refine ⟨_, rfl, ?_⟩; intro Az Hz
  refine hK _ _ (m43.to ⟨il, il, il, il, il, il, trivial⟩) ?_; clear hK K
  refine goA hP29 [12, 13] 2 4095 16383 Hz (m43.to ⟨il, il, il, il, il, il, trivial⟩) (.lss rfl rfl <| .pickT rfl rfl .nil) fun Az Hz => ?_
  refine wpAnyE_done (by kernel_rfl) ?_ _
  refine hK5 _ _ ?_
  refine bc Hz 31 ?_ ?_
  ·
   intro hb47 Hz; try simp only [QQ, Qax] at hb47
   have hln : m < y.ws.length := by have := hb47; first | omega | (simp at this; omega)
   refine wct Hz ?_
   refine zss (hK4 _ _ ?_)
   refine wp_block ?_
   replace Hz := Hz.oz [1, 2, 3, 6, 7, 8, 9]
   refine zsr fun K6 hK6 => ?_
   refine goCh Hz (.loadBR m43 (i := 20) rfl rfl U34 rfl fct24 (by simp) (by dsimp only [List.drop, List.take] <;> rfl) <| .move rfl <| .fa 4 rfl U39 <| .lb m43 25 U2 rfl rfl rfl .nil) fun Az Hz => ?_
   refine plz (ecl Hz Tryz.func36 rfl (gpush_x _ y k fn cnt m hC hF hwo _ _ _ _ _ _ _ _ _ rfl hmn (m43.into [(3, 3)] (by decide) rfl)) ?_)
   rintro e w57 ⟨p57, c57, rfl, hm57⟩
   have mx57 := m43.back hm57 [(3, 3), (100, 9)] (by decide); clear hm57 m43
   have m57 := mx57.oz [3, 100, 20, 21, 22, 25, 26]
   refine ⟨_, rfl, ?_⟩; intro Az Hz
   refine goCh Hz (.move rfl <| .extract rfl rfl <| .extract rfl rfl .nil) fun Az Hz => ?_
   refine plz (stw Hz m57 22 fct7 fun w62 m62 _ => ?_)
   refine gz hK6 Hz (.assign rfl .nil) fun Az Hz => ?_
   replace Hz := Hz.oz [1, 2, 3, 6, 7, 8, 9, 39]
   refine wp_region_lit ?_
   refine goCh Hz (.loadBR m62 (i := 25) rfl rfl U39 rfl fct5 (by simp) (by dsimp only [List.drop, List.take] <;> rfl) <| .loadBR m62 (i := 22) rfl rfl U25 rfl fct7 (by simp) (by dsimp only [List.drop, List.take] <;> rfl) .nil) fun Az Hz => ?_
   refine plz (ecl Hz Tryz.func18 rfl (zapply_c _ y k fn cnt m hC hF _ _ _ _ _ _ _ rfl rfl hmn (m62.into [(1, 26), (2, 100)] (by decide) rfl)) ?_)
   rintro e w67 ⟨p67, c67, rfl, hm67⟩
   have mx67 := m62.back hm67 [(26, 1), (100, 2), (101, 9)] (by decide); clear hm67 m62
   have m67 := mx67.oz [26, 100, 101, 3, 20, 21, 22, 25]
   refine ⟨_, rfl, ?_⟩; intro Az Hz
   refine plz (stw Hz m67 25 fct5 fun w69 m69 _ => ?_)
   refine wpList_nil ?_
   show ∃ n', n' < _ ∧ _
   have m70 := m69.freezeR 101 rfl
   exact ⟨y.ws.length - tqN y m, by unfold tqN; omega, tqN y m, _, _, _, _, _, _, _, _, _, _, _, _, _, _, _, _, by unfold tqN; omega, rfl, Hz.only [1, 2, 3, 6, 7, 8, 9], m70.ren [(3, 3), (20, 20), (21, 21), (22, 22), (25, 25), (26, 101)] (by decide)⟩
  intro hb47 Hz; try simp only [QQ, Qax] at hb47
  have hfin : mark ≤ (m : Int) ∨ m = y.ws.length := .inr (by have := hb47; first | omega | (simp at this; omega))
  refine wcf Hz ?_
  refine wp_exit ?_
  refine hK3 _ _ ?_
  replace Hz := Hz.oz [1, 2, 3, 6, 7, 8, 9]
  refine zsr fun K7 hK7 => ?_
  refine goCh Hz (.loadBR m43 (i := 25) rfl rfl U39 rfl fct5 (by simp) (by dsimp only [List.drop, List.take] <;> rfl) .nil) fun Az Hz => ?_
  refine plz (stw Hz m43 21 fct5 fun w74 m74 _ => ?_)
  refine znl (hK7 _ _ ?_)
  refine rtd (retC (fn := Tryz.f10) Hz m74 (i := 21) rfl rfl rfl U39 rfl fct5 ?_)
  exact ⟨m, _, _, hmn, hfin, rfl, m74.ren [(3, 3), (9, 26)] (by decide)⟩
 intro hb38 Hz; try simp only [QQ, Qax] at hb38
 have hfin : mark ≤ (m : Int) ∨ m = y.ws.length := .inl (by have := hb38; first | omega | (simp at this; omega))
 refine goA hP29 [8, 9, 10, 11, 12, 13] 6 255 16383 Hz (m29.to ⟨il, il, il, il, il, il, trivial⟩) (.s <| .s <| .s <| .s <| .s <| .pickF rfl rfl .nil) fun Az Hz => ?_
 refine wpAnyE_done (by kernel_rfl) ?_ _
 refine hK5 _ _ ?_
 refine wcf Hz ?_
 refine wp_exit ?_
 refine hK3 _ _ ?_
 replace Hz := Hz.oz [1, 2, 3, 6, 7, 8, 9]
 refine zsr fun K8 hK8 => ?_
 refine goCh Hz (.loadBR m29 (i := 25) rfl rfl U39 rfl fct5 (by simp) (by dsimp only [List.drop, List.take] <;> rfl) .nil) fun Az Hz => ?_
 refine plz (stw Hz m29 21 fct5 fun w84 m84 _ => ?_)
 refine znl (hK8 _ _ ?_)
 refine rtd (retC (fn := Tryz.f10) Hz m84 (i := 21) rfl rfl rfl U39 rfl fct5 ?_)
 exact ⟨m, _, _, hmn, hfin, rfl, m84.ren [(3, 3), (9, 26)] (by decide)⟩
end Go.Proofs.YteglmahnkfgelaaGreat.K
