/- ChunkLate's walk. -/
import Derived.Test.YteglmahnkfgelaaGreatChz7
import Derived.Test.YteglmahnkfgelaaGreatChu13
namespace Go.Proofs.YteglmahnkfgelaaGreat.K
open Go.ChangeShapes Go.WideShapes Go.ChangeAt Go.RowKit
set_option linter.unusedVariables false
set_option linter.unusedSimpArgs false
set_option maxRecDepth 100000
set_option maxHeartbeats 4000000
theorem gap_le (X : Cx) (y : VolV) (k fn cnt m : Nat) (hC : CkOk y k fn cnt) (hF : VolF y) (hmn : m ≤ y.ws.length) (mk : Nat) (hmkn : mk ≤ y.ws.length) (hle : mk ≤ m) (p pw : Option Addr) (c cw : Nat) (w0 : World) (m0 : MemOk X w0 [(1, .dat (.slice p cnt c) (.l 1 ((chN y fn cnt m).map hD))), (2, .dat (.slice pw (pwN y fn cnt mk).length cw) (.l 2 ((pwN y fn cnt mk).map wrD)))] w0) :
   Calls Tryz.prog 17 #[.agg #[.int .i64 y.vo, .int .i64 (k : Int), .int .i64 (cnt : Int), .int .i64 y.sz, .int .i64 (m : Int), .int .i64 (min y.fl (m : Int)), .slice p cnt c], .agg #[.int .i64 y.vo, .int .i64 (k : Int), .int .i64 (cnt : Int), .int .i64 y.sz, .int .i64 (mk : Int), .int .i64 (tqN y mk : Int), .int .i64 (min y.fl (tqN y mk : Int)), .slice pw (pwN y fn cnt mk).length cw]] w0 fun e w' => ∃ (p9 : Option Addr) (c9 : Nat), e = .returned (.agg #[.int .i64 y.vo, .int .i64 (k : Int), .int .i64 (cnt : Int), .int .i64 y.sz, .int .i64 (((max m (tqN y mk)) : Nat) : Int), .int .i64 (max (min y.fl (m : Int)) (min y.fl (tqN y mk : Int))), .slice p9 cnt c9]) ∧ MemOk X w0 [(1, .dat (.slice p cnt c) (.l 1 ((chN y fn cnt m).map hD))), (2, .dat (.slice pw (pwN y fn cnt mk).length cw) (.l 2 ((pwN y fn cnt mk).map wrD))), (9, .dat (.slice p9 cnt c9) (.l 1 ((chuH y.ws (fn : Int) cnt (max m (tqN y mk)) (max (min y.fl (m : Int)) (min y.fl (tqN y mk : Int)))).map hD)))] w' := by
 have hl := hF.wl; have hf0 := hF.fl0
 have h := capply_x X y.vo (k : Int) (cnt : Int) y.sz (m : Int) (min y.fl (m : Int)) (mk : Int) (tqN y mk : Int) (min y.fl (tqN y mk : Int)) (chN y fn cnt m) (pwN y fn cnt mk) p pw cnt c (pwN y fn cnt mk).length cw w0 (chu_hb hF.wr hF.sz.2 (by omega)) (by rw [chN_len]) (pw_ok hC hF hmkn) (by omega) m0
 have hA : (applyW (m : Int) (chN y fn cnt m) (pwN y fn cnt mk)).map (fun h => pruneF h (max (min y.fl (m : Int)) (min y.fl (tqN y mk : Int)))) = chuH y.ws (fn : Int) cnt (max m (tqN y mk)) (max (min y.fl (m : Int)) (min y.fl (tqN y mk : Int))) := chu_apply hF.wr (by omega) (fi := fn) (fl := min y.fl (m : Int)) (fl2 := (max (min y.fl (m : Int)) (min y.fl (tqN y mk : Int)))) (cnt := cnt) (mk := mk) (m := m) (tq := tqN y mk) hle hmn (by omega)
 rw [hA, show max (m : Int) (tqN y mk : Int) = (((max m (tqN y mk)) : Nat) : Int) by omega] at h
 refine h.mono fun e w' h8 => ?_
 obtain ⟨p9, c9, h1, h2⟩ := h8
 exact ⟨p9, c9, h1, (h2.freezeR 9 rfl).ren [(1, 1), (2, 2), (9, 9)] (by decide)⟩
theorem gap_ah (X : Cx) (y : VolV) (k fn cnt m : Nat) (hC : CkOk y k fn cnt) (hF : VolF y) (hmn : m ≤ y.ws.length) (mk : Nat) (hmkn : mk ≤ y.ws.length) (hle : ¬ mk ≤ m) (p pw : Option Addr) (c cw : Nat) (w0 : World) (m0 : MemOk X w0 [(1, .dat (.slice p cnt c) (.l 1 ((chN y fn cnt m).map hD))), (2, .dat (.slice pw (pwN y fn cnt mk).length cw) (.l 2 ((pwN y fn cnt mk).map wrD)))] w0) :
   Calls Tryz.prog 17 #[.agg #[.int .i64 y.vo, .int .i64 (k : Int), .int .i64 (cnt : Int), .int .i64 y.sz, .int .i64 (m : Int), .int .i64 (min y.fl (m : Int)), .slice p cnt c], .agg #[.int .i64 y.vo, .int .i64 (k : Int), .int .i64 (cnt : Int), .int .i64 y.sz, .int .i64 (mk : Int), .int .i64 (tqN y mk : Int), .int .i64 (min y.fl (tqN y mk : Int)), .slice pw (pwN y fn cnt mk).length cw]] w0 fun e w' => ∃ (p9 : Option Addr) (c9 : Nat), e = .returned (.agg #[.int .i64 y.vo, .int .i64 (k : Int), .int .i64 (cnt : Int), .int .i64 y.sz, .int .i64 (m : Int), .int .i64 (min y.fl (m : Int)), .slice p9 cnt c9]) ∧ MemOk X w0 [(1, .dat (.slice p cnt c) (.l 1 ((chN y fn cnt m).map hD))), (2, .dat (.slice pw (pwN y fn cnt mk).length cw) (.l 2 ((pwN y fn cnt mk).map wrD))), (9, .dat (.slice p9 cnt c9) (.l 1 ((chN y fn cnt m).map hD)))] w' := by
 have hl := hF.wl; have hf0 := hF.fl0
 have h := capply_no X y.vo (k : Int) (cnt : Int) y.sz (m : Int) (min y.fl (m : Int)) (mk : Int) (tqN y mk : Int) (min y.fl (tqN y mk : Int)) (chN y fn cnt m) (pwN y fn cnt mk) p pw cnt c (pwN y fn cnt mk).length cw w0 (chu_hb hF.wr hF.sz.2 (by omega)) (by rw [chN_len]) (pw_ok hC hF hmkn) (by omega) m0
 refine h.mono fun e w' h8 => ?_
 obtain ⟨p9, c9, h1, h2⟩ := h8
 exact ⟨p9, c9, h1, (h2.freezeR 9 rfl).ren [(1, 1), (2, 2), (9, 9)] (by decide)⟩
theorem zsame_c (X : Cx) (y : VolV) (k fn cnt m : Nat) (hC : CkOk y k fn cnt) (hF : VolF y) (hmn : m ≤ y.ws.length) (p q : Option Addr) (c d : Nat) (w0 : World) (m0 : MemOk X w0 [(1, .dat (.slice p cnt c) (.l 1 ((chN y fn cnt m).map hD))), (2, .dat (.slice q cnt d) (.l 1 ((chN y fn cnt m).map hD)))] w0) :
   Calls Tryz.prog 16 #[.agg #[.int .i64 y.vo, .int .i64 (k : Int), .int .i64 (cnt : Int), .int .i64 y.sz, .int .i64 (m : Int), .int .i64 (min y.fl (m : Int)), .slice p cnt c], .agg #[.int .i64 y.vo, .int .i64 (k : Int), .int .i64 (cnt : Int), .int .i64 y.sz, .int .i64 (m : Int), .int .i64 (min y.fl (m : Int)), .slice q cnt d]] w0 fun e w' => e = .returned (.bool true) ∧ MemOk X w0 [(1, .dat (.slice p cnt c) (.l 1 ((chN y fn cnt m).map hD))), (2, .dat (.slice q cnt d) (.l 1 ((chN y fn cnt m).map hD)))] w' := by
 have hl := hF.wl
 have hcl := chN_len y fn cnt m
 have hHB : HB 900000 (chN y fn cnt m) := chu_hb hF.wr hF.sz.2 (by omega)
 have hc2 := hC.c256
 have h := zsame_x X y.vo (k : Int) (cnt : Int) y.sz (m : Int) (min y.fl (m : Int)) (chN y fn cnt m) p q c d w0 (by omega) (fun x hx => (hHB.at hx).2.1) (by rw [hcl]; exact m0)
 rw [hcl] at h
 exact h
theorem zread_f (X : Cx) (y : VolV) (k fn cnt m : Nat) (hC : CkOk y k fn cnt) (hF : VolF y) (hmn : m ≤ y.ws.length) (i t : Nat) (p : Option Addr) (c : Nat) (tv : Int) (w0 : World) (S : List (List Int)) (hS : stL y.bl y.sz y.ws t = S) (htv : tv = (t : Int)) (hi : i < cnt) (hft : min y.fl (m : Int) ≤ tv) (ht : tv ≤ m) (m0 : MemOk X w0 [(1, .dat (.slice p cnt c) (.l 1 ((chN y fn cnt m).map hD)))] w0) :
   Calls Tryz.prog 34 #[.agg #[.int .i64 y.vo, .int .i64 (k : Int), .int .i64 (cnt : Int), .int .i64 y.sz, .int .i64 (m : Int), .int .i64 (min y.fl (m : Int)), .slice p cnt c], .int .i64 (i : Int), .int .i64 tv] w0 fun e w' => ∃ (p9 : Option Addr) (c9 : Nat), e = .returned (.tuple #[.slice p9 (S.getD (fn + i) []).length c9, .int .i64 0]) ∧ MemOk X w0 [(1, .dat (.slice p cnt c) (.l 1 ((chN y fn cnt m).map hD))), (9, .dat (.slice p9 (S.getD (fn + i) []).length c9) (.ns .u8 (S.getD (fn + i) [])))] w' := by
 subst htv hS
 have hl := hF.wl; have htop := hC.top
 have hR := chu_read hF.wr (fi := (fn : Int)) (fl := min y.fl (m : Int)) (fn := fn) (cnt := cnt) (m := m) (t := t) (i := i) rfl hft (by omega) hi (by omega)
 have hcl := chN_len y fn cnt m
 have hHB : HB 900000 (chN y fn cnt m) := chu_hb hF.wr hF.sz.2 (by omega)
 have hc2 := hC.c256
 rw [← hR]
 have hok : ∀ h ∈ chN y fn cnt m, h.length ≤ 1000000 ∧ Rise h := fun x hx => ⟨(hHB.at hx).2.1, (hHB.at hx).1⟩
 rcases hA : atF ((chN y fn cnt m).getD i []) t with _ | d
 · have h := zread_none X y.vo (k : Int) (cnt : Int) y.sz (m : Int) (min y.fl (m : Int)) (chN y fn cnt m) i (t : Int) p c w0 (by omega) hok (by omega) ⟨by have := hF.sz; omega, hF.sz.2⟩ hft ht hA (by rw [hcl]; exact m0)
   rw [hcl] at h
   exact h
 have h := zread_some X y.vo (k : Int) (cnt : Int) y.sz (m : Int) (min y.fl (m : Int)) (chN y fn cnt m) i (t : Int) p c w0 (by omega) hok (by omega) ⟨by have := hF.sz; omega, hF.sz.2⟩ hft ht hA (by rw [hcl]; exact m0)
 rw [hcl] at h
 exact h
theorem late_walk (l : List Int) (pl : Option Addr) (cl n1 hv nm : Nat) (w0 : World) (hn : n1 ≤ 255) (hhv : hv ≤ 255) (hnm : nm ≤ 255) (h1 : Rd (fun _ => True) w0 (.slice pl l.length cl) (.ns .u8 l)) (hlb : ∀ j, j < l.length → 0 ≤ l.getD j 0 ∧ l.getD j 0 ≤ 255) :
   Calls Tryz.prog 6 #[.slice pl l.length cl, .int .u8 (n1 : Int), .int .u8 (hv : Int), .int .u8 (nm : Int)] w0 fun e w' => e = .returned (.bool true) ∧ Below w0.heap.size w0 w' := by
 refine ent4 Tryz.func6 rfl Tryz.ntmps6 fun Az Hz => ?_
 have m0 := MemOk.start (fun _ => False) w0
 refine regS Hz (.assign rfl .nil) fun Az Hz => ?_
 refine wsk fun K0 hK0 => ?_
 refine zsr fun K1 hK1 => ?_
 refine plz (ecb Hz Tryz.func7 rfl m0 (cknown_x _) fun Az w2 Hz m3 => ?_)
 refine gz hK1 Hz (.not rfl .nil) fun Az Hz => ?_
 refine wcf Hz ?_
 refine zss (hK0 _ _ ?_)
 refine wsk fun K2 hK2 => ?_
 refine regS Hz (.move rfl <| .len rfl U22 <| .gtr rfl rfl .nil) fun Az Hz => ?_
 refine bc Hz 25 ?_ ?_
 ·
  intro hb9 Hz; try simp only [QQ, Qax] at hb9
  refine wct Hz ?_
  refine regS Hz (.assign rfl .nil) fun Az Hz => ?_
  refine rt1 Hz ?_
  exact ⟨by (first | rfl | simp), m3.below⟩
 intro hb9 Hz; try simp only [QQ, Qax] at hb9
 have hl80 : l.length ≤ 80 := by have := hb9; first | omega | (simp at this; omega)
 refine wcf Hz ?_
 refine zss (hK2 _ _ ?_)
 refine zsr fun K3 hK3 => ?_
 refine goCh Hz (.move rfl <| .move rfl <| .move rfl .nil) fun Az Hz => ?_
 refine plz (ecl Hz Tryz.func9 rfl (lpush_x l _ _ n1 nm _ (by omega) (by omega) hl80 ((h1.now' m3 rfl).any) hlb) ?_)
 rintro e w17 ⟨y, k, fn, cnt, mk, pp17, pn17, pw17, pq17, cp17, nn17, cn17, cw17, cq17, hS, hC, hmkn, rfl, hd17, he17, hb17⟩
 have m18 := m3.callF3 70 71 72 rfl rfl rfl hb17 hd17 he17 hd17
 have hF : VolF y := hS.f (by omega)
 have hwo : WrsOk y.ws := hS.1.its.1
 have hn80 : y.ws.length ≤ 80 := by have := hS.2.2.2.1; omega
 have hf0 := hF.fl0
 have hf1 := hF.fl1
 have hwl := hF.wl
 have hvb := hF.bl
 have hvp := hF.pe
 have hc1 := hC.pos
 have hc2 := hC.c256
 have hc3 := hC.fnb
 have hc4 := hC.top
 have hc5 := hC.k255
 have hc6 := hC.fe
 refine ⟨_, rfl, ?_⟩; intro Az Hz
 refine goCh Hz (.move rfl <| .extract rfl rfl <| .extract rfl rfl <| .extract rfl rfl .nil) fun Az Hz => ?_
 refine plz (e_alloc Hz m18 73 fct26 rfl fun g24 Az w25 Hz m25 _ _ => ?_)
 refine plz (e_alloc Hz m25 74 fct16 rfl fun g26 Az w27 Hz m27 _ _ => ?_)
 refine plz (stw Hz m27 73 fct24 fun w28 m28 _ => ?_)
 refine goCh Hz (.assign rfl .nil) fun Az Hz => ?_
 refine plz (stw Hz m28 74 fct7 fun w30 m30 _ => ?_)
 refine znl (hK3 _ _ ?_)
 replace Hz := Hz.oz [2, 8, 9, 11, 10]
 refine zsr fun K4 hK4 => ?_
 refine goCh Hz (.loadBR m30 (i := 73) rfl rfl U34 rfl fct24 (by simp) (by dsimp only [List.drop, List.take] <;> rfl) <| .move rfl <| .move rfl <| .rem rfl rfl (by omega) (r := ((hv % 20 : Nat) : Int)) (by have := tmodNN hv 20; simpa using this) <| .conv rfl U5 U2 (IntWalk.i64_in _ (by omega)) .nil) fun Az Hz => ?_
 refine plz (ecl Hz Tryz.func10 rfl (zchunk_x _ y k fn cnt hC hF hwo _ _ _ _ _ _ _ _ _ (m30.into [(3, 70)] (by decide) rfl)) ?_)
 rintro e w42 ⟨m, p42, c42, hmn, hfin, rfl, hm42⟩
 have mx42 := m30.back hm42 [(70, 3), (75, 9)] (by decide); clear hm42 m30
 have m42 := mx42.oz [70, 75, 71, 72, 73, 74]
 refine ⟨_, rfl, ?_⟩; intro Az Hz
 refine plz (e_alloc Hz m42 76 fct6 rfl fun g44 Az w45 Hz m45 _ _ => ?_)
 refine plz (stw Hz m45 76 fct5 fun w46 m46 _ => ?_)
 refine znl (hK4 _ _ ?_)
 refine wsk fun K5 hK5 => ?_
 by_cases hle : mk ≤ m
 ·
  replace Hz := Hz.oz [8, 9, 11, 10, 12]
  refine wp_region_lit ?_
  refine goCh Hz (.loadBR m46 (i := 76) rfl rfl U39 rfl fct5 (by simp) (by dsimp only [List.drop, List.take] <;> rfl) <| .loadBR m46 (i := 74) rfl rfl U25 rfl fct7 (by simp) (by dsimp only [List.drop, List.take] <;> rfl) .nil) fun Az Hz => ?_
  refine plz (ecl Hz Tryz.func17 rfl (gap_le _ y k fn cnt m hC hF hmn mk hmkn hle _ _ _ _ _ (m46.into [(1, 75), (2, 71)] (by decide) rfl)) ?_)
  rintro e w50 ⟨p50, c50, rfl, hm50⟩
  have mx50 := m46.back hm50 [(75, 1), (71, 2), (77, 9)] (by decide); clear hm50 m46
  have m50 := mx50.oz [75, 71, 77, 70, 72, 73, 74, 76]
  refine ⟨_, rfl, ?_⟩; intro Az Hz
  refine plz (e_alloc Hz m50 78 fct6 rfl fun g52 Az w53 Hz m53 _ _ => ?_)
  refine plz (stw Hz m53 78 fct5 fun w54 m54 _ => ?_)
  refine znl (hK5 _ _ ?_)
  refine wsk fun K6 hK6 => ?_
  refine regS Hz (.fa 4 rfl U25 <| .lb m54 74 U2 rfl rfl rfl <| .fa 4 rfl U39 <| .lb m54 76 U2 rfl rfl rfl <| .gtr rfl rfl .nil) fun Az Hz => ?_
  refine bc Hz 47 ?_ ?_
  · intro hb _; exact absurd hb (by simp; omega)
  clear Hz; intro _ Hz
  refine wcf Hz ?_
  refine zss (hK6 _ _ ?_)
  replace Hz := Hz.oz [8, 9, 11, 10, 12, 13]
  refine zsr fun K7 hK7 => ?_
  refine goCh Hz (.loadBR m54 (i := 73) rfl rfl U34 rfl fct24 (by simp) (by dsimp only [List.drop, List.take] <;> rfl) <| .move rfl <| .fa 4 rfl U39 <| .lb m54 76 U2 rfl rfl rfl <| .fa 5 rfl U25 <| .lb m54 74 U2 rfl rfl rfl <| .c rfl (fun _ h_ => y_max h_ rfl rfl rfl) .nil) fun Az Hz => ?_
  refine plz (ecl Hz Tryz.func10 rfl (zchunk_x _ y k fn cnt hC hF hwo _ _ _ _ _ _ _ _ _ (m54.into [(3, 70)] (by decide) rfl)) ?_)
  rintro e w76 ⟨mw, p76, c76, hmwn, hfw, rfl, hm76⟩
  have mx76 := m54.back hm76 [(70, 3), (79, 9)] (by decide); clear hm76 m54
  have m76 := mx76.oz [70, 79, 71, 72, 73, 74, 75, 76, 77, 78]
  refine ⟨_, rfl, ?_⟩; intro Az Hz
  refine plz (e_alloc Hz m76 80 fct6 rfl fun g78 Az w79 Hz m79 _ _ => ?_)
  refine plz (stw Hz m79 80 fct5 fun w80 m80 _ => ?_)
  refine znl (hK7 _ _ ?_)
  refine wsk fun K8 hK8 => ?_
  replace Hz := Hz.oz [8, 11, 12, 13, 14]
  refine regS Hz (.fa 4 rfl U39 <| .lb m80 78 U2 rfl rfl rfl <| .fa 4 rfl U39 <| .lb m80 76 U2 rfl rfl rfl <| .fa 5 rfl U25 <| .lb m80 74 U2 rfl rfl rfl <| .c rfl (fun _ h_ => y_max h_ rfl rfl rfl) <| .neq rfl rfl .nil) fun Az Hz => ?_
  refine bc Hz 66 ?_ ?_
  · intro hb _; exact absurd hb (by simp; omega)
  clear Hz; intro _ Hz
  refine wcf Hz ?_
  refine zss (hK8 _ _ ?_)
  refine wsk fun K9 hK9 => ?_
  replace Hz := Hz.oz [8, 12, 13, 14]
  refine regS Hz (.assign rfl .nil) fun Az Hz => ?_
  refine wp_block ?_
  have hm2 : max m (tqN y mk) ≤ y.ws.length := by unfold tqN; omega
  have hf2 : 0 ≤ max (min y.fl (m : Int)) (min y.fl (tqN y mk : Int)) ∧ max (min y.fl (m : Int)) (min y.fl (tqN y mk : Int)) ≤ ((max m (tqN y mk) : Nat) : Int) := by omega
  refine wp_loop_ghost (fun g a w => ∃ (b : Nat) (B12 B13 B14 : Nat) (pa pb pc : Option Addr) (ca cb cc : Nat), b ≤ cnt ∧ g = cnt - b ∧ Has 114 [(12, .pointer (some ⟨B12, 0, none⟩)), (13, .pointer (some ⟨B13, 0, none⟩)), (14, .pointer (some ⟨B14, 0, none⟩)), (15, .int .i64 (b : Int))] a ∧ MemOk (cn w0) w0 [(20, .box B12 39 [.int .i64 y.vo, .int .i64 (k : Int), .int .i64 (cnt : Int), .int .i64 y.sz, .int .i64 ((m : Nat) : Int), .int .i64 (min y.fl (m : Int)), .slice pa cnt ca]), (21, .dat (.slice pa cnt ca) (.l 1 ((chN y fn cnt m).map hD))), (22, .box B13 39 [.int .i64 y.vo, .int .i64 (k : Int), .int .i64 (cnt : Int), .int .i64 y.sz, .int .i64 (((max m (tqN y mk)) : Nat) : Int), .int .i64 (max (min y.fl (m : Int)) (min y.fl (tqN y mk : Int))), .slice pb cnt cb]), (23, .dat (.slice pb cnt cb) (.l 1 ((chuH y.ws (fn : Int) cnt (max m (tqN y mk)) (max (min y.fl (m : Int)) (min y.fl (tqN y mk : Int)))).map hD))), (24, .box B14 39 [.int .i64 y.vo, .int .i64 (k : Int), .int .i64 (cnt : Int), .int .i64 y.sz, .int .i64 ((mw : Nat) : Int), .int .i64 (min y.fl (mw : Int)), .slice pc cnt cc]), (25, .dat (.slice pc cnt cc) (.l 1 ((chN y fn cnt mw).map hD)))] w) (cnt) ?_ ?_
  · exact ⟨0, _, _, _, _, _, _, _, _, _, Nat.zero_le _, rfl, Hz.only [12, 13, 14, 15], m80.ren [(20, 76), (21, 75), (22, 78), (23, 77), (24, 80), (25, 79)] (by decide)⟩
  clear Hz m80
  rintro g Az w93 ⟨b, B12, B13, B14, pa, pb, pc, ca, cb, cc, hbl, hg, Hz, m93⟩
  refine wsk fun K10 hK10 => ?_
  refine regS Hz (.move rfl <| .fa 2 rfl U39 <| .lb m93 20 U3 rfl rfl rfl <| .lss rfl rfl .nil) fun Az Hz => ?_
  refine bc Hz 70 ?_ ?_
  ·
   intro hb98 Hz; try simp only [QQ, Qax] at hb98
   have hbc : b < cnt := by have := hb98; first | omega | (simp at this; omega)
   refine wct Hz ?_
   refine zss (hK10 _ _ ?_)
   refine wsk fun K11 hK11 => ?_
   refine wp_block ?_
   refine regS Hz (.fa 5 rfl U39 <| .lb m93 22 U2 rfl rfl rfl <| .fa 5 rfl U39 <| .lb m93 24 U2 rfl rfl rfl <| .c rfl (fun _ h_ => y_max h_ rfl rfl rfl) <| .assign rfl .nil) fun Az Hz => ?_
   refine wp_block ?_
   refine wp_loop_ghost (fun g a w => ∃ (t : Int) (B12 B13 B14 : Nat) (pa pb pc : Option Addr) (ca cb cc : Nat), (max (max (min y.fl (m : Int)) (min y.fl (tqN y mk : Int))) (min y.fl (mw : Int))) ≤ t ∧ g = ((min (((max m (tqN y mk)) : Nat) : Int) (mw : Int)) + 1 - t).toNat ∧ Has 114 [(12, .pointer (some ⟨B12, 0, none⟩)), (13, .pointer (some ⟨B13, 0, none⟩)), (14, .pointer (some ⟨B14, 0, none⟩)), (15, .int .i64 (b : Int)), (16, .int .i64 t)] a ∧ MemOk (cn w0) w0 [(20, .box B12 39 [.int .i64 y.vo, .int .i64 (k : Int), .int .i64 (cnt : Int), .int .i64 y.sz, .int .i64 ((m : Nat) : Int), .int .i64 (min y.fl (m : Int)), .slice pa cnt ca]), (21, .dat (.slice pa cnt ca) (.l 1 ((chN y fn cnt m).map hD))), (22, .box B13 39 [.int .i64 y.vo, .int .i64 (k : Int), .int .i64 (cnt : Int), .int .i64 y.sz, .int .i64 (((max m (tqN y mk)) : Nat) : Int), .int .i64 (max (min y.fl (m : Int)) (min y.fl (tqN y mk : Int))), .slice pb cnt cb]), (23, .dat (.slice pb cnt cb) (.l 1 ((chuH y.ws (fn : Int) cnt (max m (tqN y mk)) (max (min y.fl (m : Int)) (min y.fl (tqN y mk : Int)))).map hD))), (24, .box B14 39 [.int .i64 y.vo, .int .i64 (k : Int), .int .i64 (cnt : Int), .int .i64 y.sz, .int .i64 ((mw : Nat) : Int), .int .i64 (min y.fl (mw : Int)), .slice pc cnt cc]), (25, .dat (.slice pc cnt cc) (.l 1 ((chN y fn cnt mw).map hD)))] w) (((min (((max m (tqN y mk)) : Nat) : Int) (mw : Int)) + 1 - (max (max (min y.fl (m : Int)) (min y.fl (tqN y mk : Int))) (min y.fl (mw : Int)))).toNat) ?_ ?_
   · exact ⟨(max (max (min y.fl (m : Int)) (min y.fl (tqN y mk : Int))) (min y.fl (mw : Int))), _, _, _, _, _, _, _, _, _, Int.le_refl _, rfl, Hz.only [12, 13, 14, 15, 16], m93.ren [(20, 20), (21, 21), (22, 22), (23, 23), (24, 24), (25, 25)] (by decide)⟩
   clear Hz m93
   rintro g Az w105 ⟨t, B12, B13, B14, pa, pb, pc, ca, cb, cc, ht0, hg2, Hz, m105⟩
   refine wsk fun K12 hK12 => ?_
   refine regS Hz (.move rfl <| .fa 4 rfl U39 <| .lb m105 22 U2 rfl rfl rfl <| .fa 4 rfl U39 <| .lb m105 24 U2 rfl rfl rfl <| .c rfl (fun _ h_ => y_min h_ rfl rfl rfl) <| .leq rfl rfl .nil) fun Az Hz => ?_
   refine bc Hz 84 ?_ ?_
   ·
    intro hb113 Hz; try simp only [QQ, Qax] at hb113
    have hth : t ≤ (min (((max m (tqN y mk)) : Nat) : Int) (mw : Int)) := by have := hb113; first | omega | (simp at this; omega)
    obtain ⟨tn, htn⟩ : ∃ tn : Nat, t = (tn : Int) := ⟨t.toNat, by omega⟩
    obtain ⟨S, hS9⟩ : ∃ S, stL y.bl y.sz y.ws tn = S := ⟨_, rfl⟩
    refine wct Hz ?_
    refine zss (hK12 _ _ ?_)
    refine wsk fun K13 hK13 => ?_
    refine wp_block ?_
    replace Hz := Hz.oz [12, 13, 14, 15, 16]
    refine zsr fun K14 hK14 => ?_
    refine goCh Hz (.loadBR m105 (i := 22) rfl rfl U39 rfl fct5 (by simp) (by dsimp only [List.drop, List.take] <;> rfl) <| .move rfl <| .move rfl .nil) fun Az Hz => ?_
    refine plz (ecl Hz Tryz.func33 rfl (gread_f _ y k fn cnt (max m (tqN y mk)) (max (min y.fl (m : Int)) (min y.fl (tqN y mk : Int))) hC hF hm2 hf2 b tn _ _ _ _ S hS9 htn hbc (by omega) (by omega) (m105.into [(1, 23)] (by decide) rfl)) ?_)
    rintro e w121 ⟨p121, c121, rfl, hm121⟩
    have mx121 := m105.back hm121 [(23, 1), (200, 9)] (by decide); clear hm121 m105
    have m121 := mx121.oz [23, 200, 20, 21, 22, 24, 25]
    refine ⟨_, rfl, ?_⟩; intro Az Hz
    refine gz hK14 Hz (.move rfl <| .extract rfl rfl <| .extract rfl rfl <| .assign rfl <| .assign rfl <| .nil) fun Az Hz => ?_
    replace Hz := Hz.oz [12, 13, 14, 15, 16, 17, 18]
    refine zsr fun K15 hK15 => ?_
    refine goCh Hz (.loadBR m121 (i := 24) rfl rfl U39 rfl fct5 (by simp) (by dsimp only [List.drop, List.take] <;> rfl) <| .move rfl <| .move rfl .nil) fun Az Hz => ?_
    refine plz (ecl Hz Tryz.func34 rfl (zread_f _ y k fn cnt mw hC hF hmwn b tn _ _ _ _ S hS9 htn hbc (by omega) (by omega) (m121.into [(1, 25)] (by decide) rfl)) ?_)
    rintro e w135 ⟨p135, c135, rfl, hm135⟩
    have mx135 := m121.back hm135 [(25, 1), (201, 9)] (by decide); clear hm135 m121
    have m135 := mx135.oz [25, 201, 20, 21, 22, 23, 24, 200]
    refine ⟨_, rfl, ?_⟩; intro Az Hz
    refine gz hK15 Hz (.move rfl <| .extract rfl rfl <| .extract rfl rfl <| .assign rfl <| .assign rfl <| .nil) fun Az Hz => ?_
    replace Hz := Hz.oz [12, 13, 14, 15, 16, 17, 18, 19, 20]
    refine zsr fun K16 hK16 => ?_
    refine goCh Hz (.move rfl <| .neq rfl rfl <| .move rfl .nil) fun Az Hz => ?_
    refine bc Hz 103 ?_ ?_
    · intro hb _; exact absurd hb (by first | (simp; done) | (simp; omega))
    clear Hz; intro _ Hz
    refine goCh Hz (.moveZ rfl <| .neqZ rfl rfl <| .pickF rfl rfl <| .move rfl .nil) fun Az Hz => ?_
    refine bc Hz 107 ?_ ?_
    · intro hb _; exact absurd hb (by first | (simp; done) | (simp; omega))
    clear Hz; intro _ Hz
    refine gz hK16 Hz (.moveZ rfl <| .strZ rfl (m135.nums (i := 200) rfl) U22 U5 U9 <| .moveZ rfl <| .strZ rfl (m135.nums (i := 201) rfl) U22 U5 U9 <| .neqSZ rfl rfl <| .pickF rfl rfl <| .nil) fun Az Hz => ?_
    refine bc Hz 113 ?_ ?_
    · intro hb _; exact absurd hb (by first | (simp; done) | (simp; omega))
    clear Hz; intro _ Hz
    refine wcf Hz ?_
    refine zss (hK13 _ _ ?_)
    replace Hz := Hz.oz [12, 13, 14, 15, 16]
    refine wp_region_lit ?_
    refine goCh Hz (.move rfl <| .add rfl rfl (r := t + 1) (IntWalk.i64_in _ (by omega)) <| .assign rfl .nil) fun Az Hz => ?_
    refine wpList_nil ?_
    show ∃ n', n' < _ ∧ _
    exact ⟨((min (((max m (tqN y mk)) : Nat) : Int) (mw : Int)) + 1 - (t + 1)).toNat, by omega, t + 1, _, _, _, _, _, _, _, _, _, by omega, rfl, Hz.only [12, 13, 14, 15, 16], m135.ren [(20, 20), (21, 21), (22, 22), (23, 23), (24, 24), (25, 25)] (by decide)⟩
   intro hb113 Hz; try simp only [QQ, Qax] at hb113
   refine wcf Hz ?_
   refine wp_exit ?_
   refine hK11 _ _ ?_
   replace Hz := Hz.oz [12, 13, 14, 15, 16]
   refine wp_region_lit ?_
   refine goCh Hz (.move rfl <| .inc (b + 1) <| .assign rfl .nil) fun Az Hz => ?_
   refine wpList_nil ?_
   show ∃ n', n' < _ ∧ _
   exact ⟨cnt - (b + 1), by omega, b + 1, _, _, _, _, _, _, _, _, _, by omega, rfl, Hz.only [12, 13, 14, 15], m105.ren [(20, 20), (21, 21), (22, 22), (23, 23), (24, 24), (25, 25)] (by decide)⟩
  intro hb98 Hz; try simp only [QQ, Qax] at hb98
  refine wcf Hz ?_
  refine wp_exit ?_
  refine hK9 _ _ ?_
  refine regS Hz (.assign rfl .nil) fun Az Hz => ?_
  refine rt1 Hz ?_
  exact ⟨by (first | rfl | simp), m93.below⟩
 replace Hz := Hz.oz [8, 9, 11, 10, 12]
 refine wp_region_lit ?_
 refine goCh Hz (.loadBR m46 (i := 76) rfl rfl U39 rfl fct5 (by simp) (by dsimp only [List.drop, List.take] <;> rfl) <| .loadBR m46 (i := 74) rfl rfl U25 rfl fct7 (by simp) (by dsimp only [List.drop, List.take] <;> rfl) .nil) fun Az Hz => ?_
 refine plz (ecl Hz Tryz.func17 rfl (gap_ah _ y k fn cnt m hC hF hmn mk hmkn hle _ _ _ _ _ (m46.into [(1, 75), (2, 71)] (by decide) rfl)) ?_)
 rintro e w174 ⟨p174, c174, rfl, hm174⟩
 have mx174 := m46.back hm174 [(75, 1), (71, 2), (77, 9)] (by decide); clear hm174 m46
 have m174 := mx174.oz [75, 71, 77, 70, 72, 73, 74, 76]
 refine ⟨_, rfl, ?_⟩; intro Az Hz
 refine plz (e_alloc Hz m174 78 fct6 rfl fun g176 Az w177 Hz m177 _ _ => ?_)
 refine plz (stw Hz m177 78 fct5 fun w178 m178 _ => ?_)
 refine znl (hK5 _ _ ?_)
 refine wsk fun K17 hK17 => ?_
 refine regS Hz (.fa 4 rfl U25 <| .lb m178 74 U2 rfl rfl rfl <| .fa 4 rfl U39 <| .lb m178 76 U2 rfl rfl rfl <| .gtr rfl rfl .nil) fun Az Hz => ?_
 refine bc Hz 47 ?_ ?_
 rotate_left
 · intro hb _; exact absurd hb (by simp; omega)
 clear Hz; intro _ Hz
 refine wct Hz ?_
 replace Hz := Hz.oz [8, 9, 11, 10, 12, 13]
 refine zsr fun K18 hK18 => ?_
 refine goCh Hz (.loadBR m178 (i := 76) rfl rfl U39 rfl fct5 (by simp) (by dsimp only [List.drop, List.take] <;> rfl) <| .loadBR m178 (i := 78) rfl rfl U39 rfl fct5 (by simp) (by dsimp only [List.drop, List.take] <;> rfl) .nil) fun Az Hz => ?_
 refine plz (ecl Hz Tryz.func16 rfl (zsame_c _ y k fn cnt m hC hF hmn _ _ _ _ _ (m178.into [(1, 75), (2, 77)] (by decide) rfl)) ?_)
 rintro e w190 ⟨rfl, hm190⟩
 have mx190 := m178.back hm190 [(75, 1), (77, 2)] (by decide); clear hm190 m178
 have m190 := mx190.oz [75, 77, 70, 71, 72, 73, 74, 76, 78]
 refine ⟨_, rfl, ?_⟩; intro Az Hz
 refine gz hK18 Hz (.assign rfl .nil) fun Az Hz => ?_
 refine rt1 Hz ?_
 exact ⟨by (first | rfl | simp), m190.below⟩
end Go.Proofs.YteglmahnkfgelaaGreat.K
