/- chunk: the law's push. -/
import Derived.Test.YteglmahnkfgelaaGreatChz5
import Derived.Test.YteglmahnkfgelaaGreatChz6
namespace Go.Proofs.YteglmahnkfgelaaGreat.K
open Go.ChangeShapes Go.WideShapes Go.ChangeAt Go.RowKit
set_option linter.unusedVariables false
set_option linter.unusedSimpArgs false
section
variable {P : Program} {n : Nat} {T : List (Nat × Value)} {a : Act} {w w0 : World} {X : Cx} {M : Mm}
theorem retCTC (ha : Has n T a) (m : MemOk X w0 M w) {fn : Func} {t u s : Tmp} {ty ty2 : TypeId} {td td2 : TypeDesc} {i g i2 g2 : Nat} {e e2 : TypeId} {cs cs2 : List Value} {x : Value} {R : Ending → World → Prop} (hr : fn.results = #[.cell t ty, .tmp u, .cell s ty2]) (hv : lk T t = some (.pointer (some ⟨g, 0, none⟩))) (hvu : lk T u = some x) (hv2 : lk T s = some (.pointer (some ⟨g2, 0, none⟩))) (hm : lk M i = some (.box g e cs)) (hm2 : lk M i2 = some (.box g2 e2 cs2)) (hu : P.underlying ty = some td) (hd : td.isRow = true) (hs : (P.info? ty).map (·.size) = some cs.length) (hu2 : P.underlying ty2 = some td2) (hd2 : td2.isRow = true) (hs2 : (P.info? ty2).map (·.size) = some cs2.length) (h : R (.returned (.tuple #[.agg cs.toArray, x, .agg cs2.toArray])) w) : bodyPost P fn R .ret a w :=
 ⟨ha.d, _, by
   have h1 := ha.h t _ hv
   have h2 := ha.h s _ hv2
   have h3 := ha.h u _ hvu
   rw [Array.getD_eq_getD_getElem?] at h1 h2 h3
   simp [results, hr, h1, h2, h3, asAddr, run_loadBox m hm hu hd hs, run_loadBox m hm2 hu2 hd2 hs2], h⟩
end
theorem mark_at {x : Int} {n : Nat} (hx : 0 ≤ x) : ∃ mk : Nat, x.tmod ((n : Int) + 1) = (mk : Int) ∧ mk ≤ n := by
 rw [Int.tmod_eq_emod_of_nonneg hx]
 have h1 := Int.emod_nonneg x (show (n : Int) + 1 ≠ 0 by omega)
 have h2 := Int.emod_lt_of_pos x (show (0 : Int) < (n : Int) + 1 by omega)
 exact ⟨(x % ((n : Int) + 1)).toNat, by omega, by omega⟩
set_option maxRecDepth 100000
set_option maxHeartbeats 4000000
theorem lpush_x (l : List Int) (pl : Option Addr) (cl n1 nm : Nat) (w0 : World) (hn : n1 ≤ 255) (hnm : nm ≤ 255) (hl80 : l.length ≤ 80) (h1 : Rd (fun _ => True) w0 (.slice pl l.length cl) (.ns .u8 l)) (hlb : ∀ j, j < l.length → 0 ≤ l.getD j 0 ∧ l.getD j 0 ≤ 255) :
   Calls Tryz.prog 9 #[.slice pl l.length cl, .int .u8 (n1 : Int), .int .u8 (nm : Int)] w0 fun e w' => ∃ (y : VolV) (k fn cnt mk : Nat) (pp pn pw pq : Option Addr) (cp nn9 cn9 cw cq : Nat), VolS l.length y ∧ CkOk y k fn cnt ∧ mk ≤ y.ws.length ∧ e = .returned (.tuple #[.agg #[.int .i64 y.vo, .int .i64 y.bl, .int .i64 y.sz, .int .i64 y.pe, .slice pp y.place.length cp, .int .i64 y.to, .int .i64 y.ne, .bool y.hi, .int .i64 y.fl, .slice pn nn9 cn9, .slice pw (y.ws.map wrD).length cw], .int .i64 (k : Int), .agg #[.int .i64 y.vo, .int .i64 (k : Int), .int .i64 (cnt : Int), .int .i64 y.sz, .int .i64 (mk : Int), .int .i64 (tqN y mk : Int), .int .i64 (min y.fl (tqN y mk : Int)), .slice pq (pwN y fn cnt mk).length cq]]) ∧ Rd (New w0) w' (.slice pw (y.ws.map wrD).length cw) (.l 2 (y.ws.map wrD)) ∧ Rd (New w0) w' (.slice pq (pwN y fn cnt mk).length cq) (.l 2 ((pwN y fn cnt mk).map wrD)) ∧ Below w0.heap.size w0 w' := by
 refine ent3 Tryz.func9 rfl Tryz.ntmps9 fun Az Hz => ?_
 have m0 := MemOk.start (fun _ => False) w0
 refine zsr fun K0 hK0 => ?_
 refine plz (e_alloc Hz m0 70 fct26 rfl fun g1 Az w2 Hz m2 _ _ => ?_)
 refine goCh Hz (.assign rfl .nil) fun Az Hz => ?_
 refine plz (e_alloc Hz m2 71 fct16 rfl fun g4 Az w5 Hz m5 _ _ => ?_)
 refine znl (hK0 _ _ ?_)
 refine zsr fun K1 hK1 => ?_
 refine goCh Hz (.move rfl .nil) fun Az Hz => ?_
 refine plz (ecl Hz Tryz.func31 rfl (svol_any l _ _ _ ((h1.now' m5 rfl).any) (by omega) hlb) ?_)
 rintro e w8 ⟨y, p18, p28, p38, d18, d28, d38, rfl, hS, hd8, he8, hf8, hb8⟩
 have m9 := m5.callF3 72 73 74 rfl rfl rfl hb8 hd8 he8 hf8
 clear hb8 hd8 he8 hf8
 have hF : VolF y := hS.f (by omega)
 have hwo : WrsOk y.ws := hS.1.its.1
 have hn80 : y.ws.length ≤ 80 := by have := hS.2.2.2.1; omega
 have hf0 := hF.fl0
 have hf1 := hF.fl1
 have hwl := hF.wl
 have hvb := hF.bl
 have hvp := hF.pe
 have hpl : 0 < y.place.length := place_pos hS
 have hpl2 : y.place.length ≤ 1000 := place_top hS
 obtain ⟨k, hk⟩ : ∃ k : Nat, n1 % y.place.length = k := ⟨_, rfl⟩
 have hkp : k < y.place.length := by rw [← hk]; exact Nat.mod_lt _ hpl
 obtain ⟨fn, cnt, hC⟩ := ck_ok hS hkp
 have hc1 := hC.pos
 have hc2 := hC.c256
 have hc3 := hC.fnb
 have hc4 := hC.top
 have hc5 := hC.k255
 have hc6 := hC.fe
 refine ⟨_, rfl, ?_⟩; intro Az Hz
 refine plz (e_alloc Hz m9 75 fct26 rfl fun g11 Az w12 Hz m12 _ _ => ?_)
 refine plz (stw Hz m12 75 fct24 fun w13 m13 _ => ?_)
 refine znl (hK1 _ _ ?_)
 refine regS Hz (.move rfl <| .conv rfl U5 U3 (r := (n1 : Int)) (IntWalk.i64_in _ (by omega)) <| .fa 4 rfl U34 <| .lb m13 75 U31 rfl rfl rfl <| .len rfl U31 <| .rem rfl rfl (by omega) (r := (k : Int)) (by rw [tmodNN, hk]) <| .assign rfl .nil) fun Az Hz => ?_
 refine wsk fun K2 hK2 => ?_
 replace Hz := Hz.oz [2, 6, 7, 8, 9, 10]
 obtain ⟨mk, hmke, hmkn⟩ := mark_at (x := (nm : Int)) (n := y.ws.length) (by omega)
 have m22 := m13.oz [70, 71, 72, 73, 74, 75]
 refine region_p 13 (B := [(70, _), (71, _), (72, _), (73, _), (74, _), (75, _)]) (m22.to ⟨il, il, il, il, il, il, trivial⟩) m22 (by kernel_rfl) (fun w23 hP23 m23 => ?_); clear m22
 refine goR hP23 [0, 1, 2, 3, 4] [0, 4] 5 0 31 Hz (m23.to ⟨il, il, il, il, il, il, trivial⟩) (.loadBR hh (i := 75) rfl rfl U34 rfl fct24 (by simp) (by dsimp only [List.drop, List.take] <;> rfl) <| .move rfl <| .move rfl <| .conv rfl U5 U2 (r := (nm : Int)) (IntWalk.i64_in _ (by omega)) <| .loadBR hh (i := 75) rfl rfl U34 rfl fct24 (by simp) (by dsimp only [List.drop, List.take] <;> rfl) .nil) fun Az Hz => ?_
 refine dtw 5 12 ?_ ?_
 ·
  refine ecb Hz Tryz.func37 rfl m23 (rlen_y y _ _ _ _ _ _ _ _ _) fun Az w29 Hz m30 => ?_
  refine ⟨fun _ => (m30.to ⟨il, il, il, il, il, il, trivial⟩), ?_⟩
  refine goA hP23 [6, 7] 2 63 255 Hz (m30.to ⟨il, il, il, il, il, il, trivial⟩) (.add rfl rfl (r := (y.ws.length : Int) + 1) (IntWalk.i64_in _ (by omega)) <| .rem rfl rfl (by omega) (r := (mk : Int)) hmke .nil) fun Az Hz => ?_
  refine dtw 8 12 ?_ ?_
  ·
   refine ecl Hz Tryz.func36 rfl (gpush_x _ y k fn cnt mk hC hF hwo _ _ _ _ _ _ _ _ _ rfl hmkn (m30.into [(3, 74)] (by decide) rfl)) ?_
   rintro e w34 ⟨p34, c34, rfl, hm34⟩
   have mx34 := m30.back hm34 [(74, 3), (76, 9)] (by decide); clear hm34 m30
   have m34 := mx34.oz [74, 76, 70, 71, 72, 73, 75]
   refine ⟨_, rfl, ?_⟩; intro Az Hz
   refine ⟨fun _ => (m34.to ⟨il, il, il, il, il, il, trivial⟩), ?_⟩
   refine goA hP23 [9, 10, 11] 3 511 4095 Hz (m34.to ⟨il, il, il, il, il, il, trivial⟩) (.move rfl <| .extract rfl rfl <| .extract rfl rfl .nil) fun Az Hz => ?_
   refine so 12 ?_
   refine e_alloc Hz m34 77 fct16 rfl fun g39 Az w40 Hz m40 _ _ => ?_
   refine ⟨m40.to ⟨il, il, il, il, il, il, trivial⟩, ?_⟩
   refine se 13 ?_
   refine stw Hz m40 77 fct7 fun w41 m41 _ => ?_
   refine goB hP23 [14] 1 16383 32767 Hz (.assign rfl .nil) fun Az Hz => ?_
   refine wpAnyE_done (by kernel_rfl) ?_ _
   refine hK2 _ _ ?_
   refine wsk fun K3 hK3 => ?_
   replace Hz := Hz.oz [6, 7, 8, 9, 10, 25, 11]
   have m44 := m41.oz [70, 71, 72, 73, 74, 75, 76, 77]
   refine region_p 3 (B := [(70, _), (71, _), (72, _), (73, _), (74, _), (75, _), (76, _), (77, _)]) (m44.to ⟨il, il, il, il, il, il, il, il, trivial⟩) m44 (by kernel_rfl) (fun w45 hP45 m45 => ?_); clear m44
   refine goR hP45 [0, 1] [0] 2 0 3 Hz (m45.to ⟨il, il, il, il, il, il, il, il, trivial⟩) (.loadBR hh (i := 75) rfl rfl U34 rfl fct24 (by simp) (by dsimp only [List.drop, List.take] <;> rfl) <| .move rfl .nil) fun Az Hz => ?_
   refine dtw 2 3 ?_ ?_
   ·
    refine e_y Hz rfl (y_loadBR Hz m45 (i := 77) rfl rfl U25 rfl fct7 (by simp) (by dsimp only [List.drop, List.take] <;> rfl)) fun Az Hz => ?_
    refine ⟨fun _ => (m45.to ⟨il, il, il, il, il, il, il, il, trivial⟩), ?_⟩
    refine se 3 ?_
    refine stw Hz m45 70 fct24 fun w49 m49 _ => ?_
    refine goB hP45 [4] 1 15 31 Hz (.assign rfl .nil) fun Az Hz => ?_
    refine se 5 ?_
    refine stw Hz m49 71 fct7 fun w51 m51 _ => ?_
    refine wpAnyE_done (by kernel_rfl) ?_ _
    refine hK3 _ _ ?_
    refine rtd (retCTC (fn := Tryz.f9) Hz m51 (i := 70) (i2 := 71) rfl rfl rfl rfl rfl rfl U34 rfl fct24 U25 rfl fct7 ?_)
    exact ⟨y, k, fn, cnt, mk, _, _, _, _, _, _, _, _, _, hS, hC, hmkn, rfl, m51.outF (i := 74) rfl, m51.outF (i := 76) rfl, m51.below⟩
   refine stw Hz m45 70 fct24 fun w52 m52 _ => ?_
   refine ⟨fun h => (Bool.false_ne_true (h.symm.trans (by rfl))).elim, ?_⟩
   refine goB hP45 [4] 1 11 27 Hz (.assign rfl .nil) fun Az Hz => ?_
   refine se 2 ?_
   refine e_y Hz rfl (y_loadBR Hz m52 (i := 77) rfl rfl U25 rfl fct7 (by simp) (by dsimp only [List.drop, List.take] <;> rfl)) fun Az Hz => ?_
   refine se 5 ?_
   refine stw Hz m52 71 fct7 fun w55 m55 _ => ?_
   refine wpAnyE_done (by kernel_rfl) ?_ _
   refine hK3 _ _ ?_
   refine rtd (retCTC (fn := Tryz.f9) Hz m55 (i := 70) (i2 := 71) rfl rfl rfl rfl rfl rfl U34 rfl fct24 U25 rfl fct7 ?_)
   exact ⟨y, k, fn, cnt, mk, _, _, _, _, _, _, _, _, _, hS, hC, hmkn, rfl, m55.outF (i := 74) rfl, m55.outF (i := 76) rfl, m55.below⟩
  refine e_alloc Hz m30 76 fct16 rfl fun g56 Az w57 Hz m57 _ _ => ?_
  refine ⟨fun _ => (m57.to ⟨il, il, il, il, il, il, trivial⟩), ?_⟩
  refine so 8 ?_
  refine ecl Hz Tryz.func36 rfl (gpush_x _ y k fn cnt mk hC hF hwo _ _ _ _ _ _ _ _ _ rfl hmkn (m57.into [(3, 74)] (by decide) rfl)) ?_
  rintro e w58 ⟨p58, c58, rfl, hm58⟩
  have mx58 := m57.back hm58 [(74, 3), (77, 9)] (by decide); clear hm58 m57
  have m58 := mx58.oz [74, 77, 70, 71, 72, 73, 75, 76]
  refine ⟨_, rfl, ?_⟩; intro Az Hz
  refine ⟨m58.to ⟨il, il, il, il, il, il, trivial⟩, ?_⟩
  refine goA hP23 [9, 10, 11] 3 4607 8191 Hz (m58.to ⟨il, il, il, il, il, il, trivial⟩) (.move rfl <| .extract rfl rfl <| .extract rfl rfl .nil) fun Az Hz => ?_
  refine se 13 ?_
  refine stw Hz m58 76 fct7 fun w63 m63 _ => ?_
  refine goB hP23 [14] 1 16383 32767 Hz (.assign rfl .nil) fun Az Hz => ?_
  refine wpAnyE_done (by kernel_rfl) ?_ _
  refine hK2 _ _ ?_
  refine wsk fun K4 hK4 => ?_
  replace Hz := Hz.oz [6, 7, 8, 9, 10, 25, 11]
  have m66 := m63.oz [70, 71, 72, 73, 74, 75, 76, 77]
  refine region_p 3 (B := [(70, _), (71, _), (72, _), (73, _), (74, _), (75, _), (76, _), (77, _)]) (m66.to ⟨il, il, il, il, il, il, il, il, trivial⟩) m66 (by kernel_rfl) (fun w67 hP67 m67 => ?_); clear m66
  refine goR hP67 [0, 1] [0] 2 0 3 Hz (m67.to ⟨il, il, il, il, il, il, il, il, trivial⟩) (.loadBR hh (i := 75) rfl rfl U34 rfl fct24 (by simp) (by dsimp only [List.drop, List.take] <;> rfl) <| .move rfl .nil) fun Az Hz => ?_
  refine dtw 2 3 ?_ ?_
  ·
   refine e_y Hz rfl (y_loadBR Hz m67 (i := 76) rfl rfl U25 rfl fct7 (by simp) (by dsimp only [List.drop, List.take] <;> rfl)) fun Az Hz => ?_
   refine ⟨fun _ => (m67.to ⟨il, il, il, il, il, il, il, il, trivial⟩), ?_⟩
   refine se 3 ?_
   refine stw Hz m67 70 fct24 fun w71 m71 _ => ?_
   refine goB hP67 [4] 1 15 31 Hz (.assign rfl .nil) fun Az Hz => ?_
   refine se 5 ?_
   refine stw Hz m71 71 fct7 fun w73 m73 _ => ?_
   refine wpAnyE_done (by kernel_rfl) ?_ _
   refine hK4 _ _ ?_
   refine rtd (retCTC (fn := Tryz.f9) Hz m73 (i := 70) (i2 := 71) rfl rfl rfl rfl rfl rfl U34 rfl fct24 U25 rfl fct7 ?_)
   exact ⟨y, k, fn, cnt, mk, _, _, _, _, _, _, _, _, _, hS, hC, hmkn, rfl, m73.outF (i := 74) rfl, m73.outF (i := 77) rfl, m73.below⟩
  refine stw Hz m67 70 fct24 fun w74 m74 _ => ?_
  refine ⟨fun h => (Bool.false_ne_true (h.symm.trans (by rfl))).elim, ?_⟩
  refine goB hP67 [4] 1 11 27 Hz (.assign rfl .nil) fun Az Hz => ?_
  refine se 2 ?_
  refine e_y Hz rfl (y_loadBR Hz m74 (i := 76) rfl rfl U25 rfl fct7 (by simp) (by dsimp only [List.drop, List.take] <;> rfl)) fun Az Hz => ?_
  refine se 5 ?_
  refine stw Hz m74 71 fct7 fun w77 m77 _ => ?_
  refine wpAnyE_done (by kernel_rfl) ?_ _
  refine hK4 _ _ ?_
  refine rtd (retCTC (fn := Tryz.f9) Hz m77 (i := 70) (i2 := 71) rfl rfl rfl rfl rfl rfl U34 rfl fct24 U25 rfl fct7 ?_)
  exact ⟨y, k, fn, cnt, mk, _, _, _, _, _, _, _, _, _, hS, hC, hmkn, rfl, m77.outF (i := 74) rfl, m77.outF (i := 77) rfl, m77.below⟩
 refine e_alloc Hz m23 76 fct16 rfl fun g78 Az w79 Hz m79 _ _ => ?_
 refine ⟨fun _ => (m79.to ⟨il, il, il, il, il, il, trivial⟩), ?_⟩
 refine so 5 ?_
 refine ecb Hz Tryz.func37 rfl m79 (rlen_y y _ _ _ _ _ _ _ _ _) fun Az w80 Hz m81 => ?_
 refine ⟨m81.to ⟨il, il, il, il, il, il, trivial⟩, ?_⟩
 refine goA hP23 [6, 7] 2 4159 4351 Hz (m81.to ⟨il, il, il, il, il, il, trivial⟩) (.add rfl rfl (r := (y.ws.length : Int) + 1) (IntWalk.i64_in _ (by omega)) <| .rem rfl rfl (by omega) (r := (mk : Int)) hmke .nil) fun Az Hz => ?_
 refine so 8 ?_
 refine ecl Hz Tryz.func36 rfl (gpush_x _ y k fn cnt mk hC hF hwo _ _ _ _ _ _ _ _ _ rfl hmkn (m81.into [(3, 74)] (by decide) rfl)) ?_
 rintro e w85 ⟨p85, c85, rfl, hm85⟩
 have mx85 := m81.back hm85 [(74, 3), (77, 9)] (by decide); clear hm85 m81
 have m85 := mx85.oz [74, 77, 70, 71, 72, 73, 75, 76]
 refine ⟨_, rfl, ?_⟩; intro Az Hz
 refine ⟨m85.to ⟨il, il, il, il, il, il, trivial⟩, ?_⟩
 refine goA hP23 [9, 10, 11] 3 4607 8191 Hz (m85.to ⟨il, il, il, il, il, il, trivial⟩) (.move rfl <| .extract rfl rfl <| .extract rfl rfl .nil) fun Az Hz => ?_
 refine se 13 ?_
 refine stw Hz m85 76 fct7 fun w90 m90 _ => ?_
 refine goB hP23 [14] 1 16383 32767 Hz (.assign rfl .nil) fun Az Hz => ?_
 refine wpAnyE_done (by kernel_rfl) ?_ _
 refine hK2 _ _ ?_
 refine wsk fun K5 hK5 => ?_
 replace Hz := Hz.oz [6, 7, 8, 9, 10, 25, 11]
 have m93 := m90.oz [70, 71, 72, 73, 74, 75, 76, 77]
 refine region_p 3 (B := [(70, _), (71, _), (72, _), (73, _), (74, _), (75, _), (76, _), (77, _)]) (m93.to ⟨il, il, il, il, il, il, il, il, trivial⟩) m93 (by kernel_rfl) (fun w94 hP94 m94 => ?_); clear m93
 refine goR hP94 [0, 1] [0] 2 0 3 Hz (m94.to ⟨il, il, il, il, il, il, il, il, trivial⟩) (.loadBR hh (i := 75) rfl rfl U34 rfl fct24 (by simp) (by dsimp only [List.drop, List.take] <;> rfl) <| .move rfl .nil) fun Az Hz => ?_
 refine dtw 2 3 ?_ ?_
 ·
  refine e_y Hz rfl (y_loadBR Hz m94 (i := 76) rfl rfl U25 rfl fct7 (by simp) (by dsimp only [List.drop, List.take] <;> rfl)) fun Az Hz => ?_
  refine ⟨fun _ => (m94.to ⟨il, il, il, il, il, il, il, il, trivial⟩), ?_⟩
  refine se 3 ?_
  refine stw Hz m94 70 fct24 fun w98 m98 _ => ?_
  refine goB hP94 [4] 1 15 31 Hz (.assign rfl .nil) fun Az Hz => ?_
  refine se 5 ?_
  refine stw Hz m98 71 fct7 fun w100 m100 _ => ?_
  refine wpAnyE_done (by kernel_rfl) ?_ _
  refine hK5 _ _ ?_
  refine rtd (retCTC (fn := Tryz.f9) Hz m100 (i := 70) (i2 := 71) rfl rfl rfl rfl rfl rfl U34 rfl fct24 U25 rfl fct7 ?_)
  exact ⟨y, k, fn, cnt, mk, _, _, _, _, _, _, _, _, _, hS, hC, hmkn, rfl, m100.outF (i := 74) rfl, m100.outF (i := 77) rfl, m100.below⟩
 refine stw Hz m94 70 fct24 fun w101 m101 _ => ?_
 refine ⟨fun h => (Bool.false_ne_true (h.symm.trans (by rfl))).elim, ?_⟩
 refine goB hP94 [4] 1 11 27 Hz (.assign rfl .nil) fun Az Hz => ?_
 refine se 2 ?_
 refine e_y Hz rfl (y_loadBR Hz m101 (i := 76) rfl rfl U25 rfl fct7 (by simp) (by dsimp only [List.drop, List.take] <;> rfl)) fun Az Hz => ?_
 refine se 5 ?_
 refine stw Hz m101 71 fct7 fun w104 m104 _ => ?_
 refine wpAnyE_done (by kernel_rfl) ?_ _
 refine hK5 _ _ ?_
 refine rtd (retCTC (fn := Tryz.f9) Hz m104 (i := 70) (i2 := 71) rfl rfl rfl rfl rfl rfl U34 rfl fct24 U25 rfl fct7 ?_)
 exact ⟨y, k, fn, cnt, mk, _, _, _, _, _, _, _, _, _, hS, hC, hmkn, rfl, m104.outF (i := 74) rfl, m104.outF (i := 77) rfl, m104.below⟩
end Go.Proofs.YteglmahnkfgelaaGreat.K
