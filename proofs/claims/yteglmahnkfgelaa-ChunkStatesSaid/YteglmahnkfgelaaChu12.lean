/- ChunkStates' walk. -/
import Derived.Test.YteglmahnkfgelaaChu11
namespace Go.Proofs.Yteglmahnkfgelaa.K
open Go.ChangeShapes Go.WideShapes Go.ChangeAt Go.RowKit
set_option linter.unusedVariables false
set_option linter.unusedSimpArgs false
theorem tmodNN (a b : Nat) : (a : Int).tmod b = ((a % b : Nat) : Int) := by rw [Int.tmod_eq_emod_of_nonneg (by omega)]; rfl
theorem place_pos {y : VolV} {n : Nat} (hS : VolS n y) : 0 < y.place.length := by
 obtain ⟨v1, -⟩ := hS.1
 obtain ⟨n1, n2, n3, n4, n5, n6, n7, n8, n9, n10, n11⟩ := v1
 have h : (1 : Int) ≤ (y.bl + y.pe - 1) / y.pe := Int.le_ediv_of_mul_le (by omega) (by omega)
 have := n9.2
 omega
theorem place_top {y : VolV} {n : Nat} (hS : VolS n y) : y.place.length ≤ 1000 := by
 obtain ⟨v1, -⟩ := hS.1
 obtain ⟨n1, n2, n3, n4, n5, n6, n7, n8, n9, n10, n11⟩ := v1
 have h : (y.bl + y.pe - 1) / y.pe ≤ y.bl + y.pe - 1 := Int.ediv_le_self _ (by omega)
 have := n9.2
 omega
set_option maxRecDepth 100000
set_option maxHeartbeats 4000000
theorem gread_y (X : Cx) (y : VolV) (k fn cnt : Nat) (hC : CkOk y k fn cnt) (hF : VolF y) (fi : Int) (i t : Nat) (p : Option Addr) (c : Nat) (tv : Int) (w0 : World) (S : List (List Int)) (hS : stL y.bl y.sz y.ws t = S) (htv : tv = (t : Int)) (hfi : fi = y.fl) (hi : i < cnt) (hf : y.fl ≤ tv) (ht : tv ≤ y.ws.length) (m0 : MemOk X w0 [(1, .dat (.slice p cnt c) (.l 1 ((chN y fn cnt y.ws.length).map hD)))] w0) :
   Calls Try.prog 13 #[.agg #[.int .i64 y.vo, .int .i64 (k : Int), .int .i64 (cnt : Int), .int .i64 y.sz, .int .i64 ((y.ws.length : Nat) : Int), .int .i64 fi, .slice p cnt c], .int .i64 (i : Int), .int .i64 tv] w0 fun e w' => ∃ (p9 : Option Addr) (c9 : Nat), e = .returned (.tuple #[.slice p9 (S.getD (fn + i) []).length c9, .int .i64 0]) ∧ MemOk X w0 [(1, .dat (.slice p cnt c) (.l 1 ((chN y fn cnt y.ws.length).map hD))), (9, .dat (.slice p9 (S.getD (fn + i) []).length c9) (.ns .u8 (S.getD (fn + i) [])))] w' := by
 subst htv hS
 exact gread_x X y k fn cnt y.ws.length hC hF fi i t p c w0 hfi rfl hi hf (by omega) m0
theorem states_walk (l : List Int) (pl : Option Addr) (cl : Nat) (n : Nat) (w0 : World) (hn : n ≤ 255) (h1 : Rd (fun _ => True) w0 (.slice pl l.length cl) (.ns .u8 l)) (hlb : ∀ j, j < l.length → 0 ≤ l.getD j 0 ∧ l.getD j 0 ≤ 255) :
   Calls Try.prog 4 #[.slice pl l.length cl, .int .u8 (n : Int)] w0 fun e w' => e = .returned (.bool true) ∧ Below w0.heap.size w0 w' := by
 refine ent2 Try.func4 rfl Try.ntmps4 fun Az Hz => ?_
 have m0 := MemOk.start (fun _ => False) w0
 refine regS Hz (.assign rfl .nil) fun Az Hz => ?_
 refine wsk fun K0 hK0 => ?_
 refine zsr fun K1 hK1 => ?_
 refine plz (ecb Hz Try.func5 rfl m0 (cknown_x _) fun Az w2 Hz m3 => ?_)
 refine gz hK1 Hz (.not rfl .nil) fun Az Hz => ?_
 refine wcf Hz ?_
 refine zss (hK0 _ _ ?_)
 refine wsk fun K2 hK2 => ?_
 refine regS Hz (.move rfl <| .len rfl U22 <| .gtr rfl rfl .nil) fun Az Hz => ?_
 refine bc Hz 25 ?_ ?_
 ·
  intro hb9 Hz; try simp only [QQ, Qax] at hb9
  refine wct Hz ?_
  refine regS Hz (.assign rfl .nil) fun Az Hz => ?_
  refine rt1 Hz ?_
  exact ⟨by (first | rfl | simp), m3.below⟩
 intro hb9 Hz; try simp only [QQ, Qax] at hb9
 have hl80 : l.length ≤ 80 := by have := hb9; first | omega | (simp at this; omega)
 refine wcf Hz ?_
 refine zss (hK2 _ _ ?_)
 refine zsr fun K3 hK3 => ?_
 refine goCh Hz (.move rfl .nil) fun Az Hz => ?_
 refine plz (ecl Hz Try.func6 rfl (svol_any l _ _ _ ((h1.now' m3 rfl).any) (by omega) hlb) ?_)
 rintro e w13 ⟨y, p113, p213, p313, d113, d213, d313, rfl, hS, hd13, he13, hf13, hb13⟩
 have m14 := m3.callF3 60 61 62 rfl rfl rfl hb13 hd13 he13 hf13
 clear hb13 hd13 he13 hf13
 have hF : VolF y := hS.f (by omega)
 have hwo : WrsOk y.ws := hS.1.its.1
 have hn80 : y.ws.length ≤ 80 := by have := hS.2.2.2.1; omega
 have hf0 := hF.fl0
 have hf1 := hF.fl1
 have hwl := hF.wl
 have hvb := hF.bl
 have hvp := hF.pe
 have hpl : 0 < y.place.length := place_pos hS
 have hpl2 : y.place.length ≤ 1000 := place_top hS
 obtain ⟨k, hk⟩ : ∃ k : Nat, n % y.place.length = k := ⟨_, rfl⟩
 have hkp : k < y.place.length := by rw [← hk]; exact Nat.mod_lt _ hpl
 obtain ⟨fn, cnt, hC⟩ := ck_ok hS hkp
 have hc1 := hC.pos
 have hc2 := hC.c256
 have hc3 := hC.fnb
 have hc4 := hC.top
 have hc5 := hC.k255
 have hc6 := hC.fe
 refine ⟨_, rfl, ?_⟩; intro Az Hz
 refine plz (e_alloc Hz m14 63 fct20 rfl fun g16 Az w17 Hz m17 _ _ => ?_)
 refine plz (stw Hz m17 63 fct17 fun w18 m18 _ => ?_)
 refine znl (hK3 _ _ ?_)
 replace Hz := Hz.oz [1, 4, 5]
 refine regS Hz (.move rfl <| .conv rfl U5 U3 (r := (n : Int)) (IntWalk.i64_in _ (by omega)) <| .fa 4 rfl U28 <| .lb m18 63 U24 rfl rfl rfl <| .len rfl U24 <| .rem rfl rfl (by omega) (r := (k : Int)) (by rw [tmodNN, hk]) <| .assign rfl .nil) fun Az Hz => ?_
 replace Hz := Hz.oz [4, 5, 6]
 refine zsr fun K4 hK4 => ?_
 refine goCh Hz (.loadBR m18 (i := 63) rfl rfl U28 rfl fct17 (by simp) (by dsimp only [List.drop, List.take] <;> rfl) <| .move rfl .nil) fun Az Hz => ?_
 refine plz (ecl Hz Try.func7 rfl (gpush_x _ y k fn cnt 0 hC hF hwo _ _ _ _ _ _ _ _ _ rfl (Nat.zero_le _) (m18.into [(3, 62)] (by decide) rfl)) ?_)
 rintro e w32 ⟨p32, c32, rfl, hm32⟩
 have mx32 := m18.back hm32 [(62, 3), (64, 9)] (by decide); clear hm32 m18
 have m32 := mx32.oz [62, 64, 60, 61, 63]
 refine ⟨_, rfl, ?_⟩; intro Az Hz
 refine goCh Hz (.move rfl <| .extract rfl rfl <| .extract rfl rfl .nil) fun Az Hz => ?_
 refine plz (e_alloc Hz m32 65 fct5 rfl fun g37 Az w38 Hz m38 _ _ => ?_)
 refine plz (stw Hz m38 65 fct3 fun w39 m39 _ => ?_)
 refine gz hK4 Hz (.assign rfl .nil) fun Az Hz => ?_
 refine wsk fun K5 hK5 => ?_
 replace Hz := Hz.oz [4, 5, 6, 7]
 have m42 := m39.oz [60, 61, 62, 63, 64, 65]
 refine region_p 5 (B := [(60, _), (61, _), (62, _), (63, _), (64, _), (65, _)]) (m42.to ⟨il, il, il, il, il, il, trivial⟩) m42 (by kernel_rfl) (fun w43 hP43 m43 => ?_); clear m42
 refine goR hP43 [0, 2] [0, 2] 2 0 5 Hz (m43.to ⟨il, il, il, il, il, il, trivial⟩) (.loadBR hh (i := 65) rfl rfl U31 rfl fct3 (by simp) (by dsimp only [List.drop, List.take] <;> rfl) <| .loadBR hh (i := 65) rfl rfl U31 rfl fct3 (by simp) (by dsimp only [List.drop, List.take] <;> rfl) .nil) fun Az Hz => ?_
 refine dtw 1 4 ?_ ?_
 ·
  refine ecl Hz Try.func8 rfl (gnew_x _ y k fn cnt 0 hC hF _ _ _ _ _ _ _ (m43.into [] (by decide) rfl)) ?_
  rintro e w46 ⟨p46, c46, rfl, hm46⟩
  have mx46 := m43.back hm46 [(66, 9)] (by decide); clear hm46 m43
  have m46 := mx46.oz [66, 60, 61, 62, 63, 64, 65]
  refine ⟨_, rfl, ?_⟩; intro Az Hz
  refine ⟨fun _ => (m46.to ⟨il, il, il, il, il, il, trivial⟩), ?_⟩
  refine dtw 3 4 ?_ ?_
  ·
   have m48 := m46.freezeR 66 rfl
   refine ecl Hz Try.func10 rfl (gapply_x _ y k fn cnt 0 hC hF _ _ _ _ _ _ _ rfl (by omega) (Nat.zero_le _) (m48.into [(1, 66), (2, 64)] (by decide) rfl)) ?_
   rintro e w49 ⟨p49, c49, rfl, hm49⟩
   have mx49 := m48.back hm49 [(66, 1), (64, 2), (67, 9)] (by decide); clear hm49 m48
   have m49 := mx49.oz [66, 64, 67, 60, 61, 62, 63, 65]
   refine ⟨_, rfl, ?_⟩; intro Az Hz
   refine ⟨fun _ => (m49.to ⟨il, il, il, il, il, il, trivial⟩), ?_⟩
   refine so 4 ?_
   refine e_alloc Hz m49 68 fct6 rfl fun g51 Az w52 Hz m52 _ _ => ?_
   refine ⟨m52.to ⟨il, il, il, il, il, il, trivial⟩, ?_⟩
   refine se 5 ?_
   refine stw Hz m52 68 fct4 fun w53 m53 _ => ?_
   refine wpAnyE_done (by kernel_rfl) ?_ _
   refine hK5 _ _ ?_
   refine wsk fun K6 hK6 => ?_
   refine regS Hz (.assign rfl .nil) fun Az Hz => ?_
   refine wp_block ?_
   have m55 := m53.freezeR 67 rfl
   refine wp_loop_ghost (fun g a w => ∃ (i m B5 B7 B9 : Nat) (p1 p2 p3 : Option Addr) (d1 d2 d3 : Nat) (pc : Option Addr) (cc : Nat) (a1 a2 a3 a4 a5 a6 a7 : Int) (pq : Option Addr) (nq cq : Nat), i ≤ 20 ∧ m = min (4 * (i + 1)) y.ws.length ∧ g = 30 - i ∧ Has 149 [(5, .pointer (some ⟨B5, 0, none⟩)), (6, .int .i64 (k : Int)), (9, .pointer (some ⟨B9, 0, none⟩)), (7, .pointer (some ⟨B7, 0, none⟩)), (10, .int .i64 (i : Int))] a ∧ MemOk (cn w0) w0 [(20, .box B5 28 [.int .i64 y.vo, .int .i64 y.bl, .int .i64 y.sz, .int .i64 y.pe, .slice p1 y.place.length d1, .int .i64 y.to, .int .i64 y.ne, .bool y.hi, .int .i64 y.fl, .slice p2 y.pins.length d2, .slice p3 (y.ws.map wrD).length d3]), (21, .dat (.slice p1 y.place.length d1) (.ns .i64 y.place)), (22, .dat (.slice p2 y.pins.length d2) (.ns .i64 y.pins)), (23, .dat (.slice p3 (y.ws.map wrD).length d3) (.l 2 (y.ws.map wrD))), (25, .box B9 36 [.int .i64 y.vo, .int .i64 (k : Int), .int .i64 (cnt : Int), .int .i64 y.sz, .int .i64 (m : Nat), .int .i64 (min y.fl (m : Nat)), .slice pc cnt cc]), (26, .dat (.slice pc cnt cc) (.l 1 ((chN y fn cnt m).map hD))), (27, .box B7 31 [.int .i64 a1, .int .i64 a2, .int .i64 a3, .int .i64 a4, .int .i64 a5, .int .i64 a6, .int .i64 a7, .slice pq nq cq])] w) (30) ?_ ?_
   · exact ⟨0, tqN y 0, _, _, _, _, _, _, _, _, _, _, _, _, _, _, _, _, _, _, _, _, _, by omega, by unfold tqN; omega, rfl, Hz.only [5, 6, 9, 7, 10], m55.ren [(20, 63), (21, 60), (22, 61), (23, 62), (25, 68), (26, 67), (27, 65)] (by decide)⟩
   clear Hz m55
   rintro g Az w56 ⟨i, m, B5, B7, B9, p1, p2, p3, d1, d2, d3, pc, cc, a1, a2, a3, a4, a5, a6, a7, pq, nq, cq, hi20, hm9, hg, Hz, m56⟩
   refine wsk fun K7 hK7 => ?_
   refine wsk fun K8 hK8 => ?_
   have m57 := m56.oz [20, 21, 22, 23, 25, 26, 27]
   refine region_p 9 (B := [(20, _), (21, _), (22, _), (23, _), (25, _), (26, _), (27, _)]) (m57.to ⟨il, il, il, il, il, il, il, trivial⟩) m57 (by kernel_rfl) (fun w58 hP58 m58 => ?_); clear m57
   refine goA hP58 [0, 1, 2] 3 0 7 Hz (m58.to ⟨il, il, il, il, il, il, il, trivial⟩) (.move rfl <| .lss rfl rfl <| .move rfl .nil) fun Az Hz => ?_
   refine bc Hz 46 ?_ ?_
   rotate_left
   · intro hb _; exact absurd hb (by simp; omega)
   clear Hz; intro _ Hz
   refine goR hP58 [3, 4, 5] [4, 5] 3 7 63 Hz (m58.to ⟨il, il, il, il, il, il, il, trivial⟩) (.fa 4 rfl U36 <| .lb hh 25 U2 rfl rfl rfl <| .loadBR hh (i := 20) rfl rfl U28 rfl fct17 (by simp) (by dsimp only [List.drop, List.take] <;> rfl) .nil) fun Az Hz => ?_
   refine stepE_only 6 rfl (by kernel_rfl) (wantedG Hz rfl rfl rfl rfl) (fun K hK => ?_)
   refine e_call Hz Try.func9 rfl rfl rfl rfl (rlen_y y _ _ _ _ _ _ _ _ _) ?_
   rintro e w66 ⟨rfl, hb66⟩
   have m67 := m58.later hb66
   refine ⟨_, rfl, ?_⟩; intro Az Hz
   refine hK _ _ (m67.to ⟨il, il, il, il, il, il, il, trivial⟩) ?_; clear hK K
   refine goA hP58 [7, 8] 2 127 511 Hz (m67.to ⟨il, il, il, il, il, il, il, trivial⟩) (.lss rfl rfl <| .pickT rfl rfl .nil) fun Az Hz => ?_
   refine wpAnyE_done (by kernel_rfl) ?_ _
   refine hK8 _ _ ?_
   refine bc Hz 52 ?_ ?_
   ·
    intro hb71 Hz; try simp only [QQ, Qax] at hb71
    have hmn : m < y.ws.length := by have := hb71; first | omega | (simp at this; omega)
    refine wct Hz ?_
    refine zss (hK7 _ _ ?_)
    refine wsk fun K9 hK9 => ?_
    refine wp_block ?_
    replace Hz := Hz.oz [5, 6, 9, 7, 10]
    refine zsr fun K10 hK10 => ?_
    refine goCh Hz (.loadBR m67 (i := 20) rfl rfl U28 rfl fct17 (by simp) (by dsimp only [List.drop, List.take] <;> rfl) <| .move rfl <| .fa 4 rfl U36 <| .lb m67 25 U2 rfl rfl rfl .nil) fun Az Hz => ?_
    refine plz (ecl Hz Try.func7 rfl (gpush_x _ y k fn cnt m hC hF hwo _ _ _ _ _ _ _ _ _ rfl (by omega) (m67.into [(3, 23)] (by decide) rfl)) ?_)
    rintro e w81 ⟨p81, c81, rfl, hm81⟩
    have mx81 := m67.back hm81 [(23, 3), (100, 9)] (by decide); clear hm81 m67
    have m81 := mx81.oz [23, 100, 20, 21, 22, 25, 26, 27]
    refine ⟨_, rfl, ?_⟩; intro Az Hz
    refine goCh Hz (.move rfl <| .extract rfl rfl <| .extract rfl rfl .nil) fun Az Hz => ?_
    refine plz (stw Hz m81 27 fct3 fun w86 m86 _ => ?_)
    refine znl (hK10 _ _ ?_)
    replace Hz := Hz.oz [5, 6, 9, 7, 10]
    refine wp_region_lit ?_
    refine goCh Hz (.loadBR m86 (i := 25) rfl rfl U36 rfl fct4 (by simp) (by dsimp only [List.drop, List.take] <;> rfl) <| .loadBR m86 (i := 27) rfl rfl U31 rfl fct3 (by simp) (by dsimp only [List.drop, List.take] <;> rfl) .nil) fun Az Hz => ?_
    refine plz (ecl Hz Try.func10 rfl (gapply_x _ y k fn cnt m hC hF _ _ _ _ _ _ _ rfl rfl (by omega) (m86.into [(1, 26), (2, 100)] (by decide) rfl)) ?_)
    rintro e w90 ⟨p90, c90, rfl, hm90⟩
    have mx90 := m86.back hm90 [(26, 1), (100, 2), (101, 9)] (by decide); clear hm90 m86
    have m90 := mx90.oz [26, 100, 101, 20, 21, 22, 23, 25, 27]
    refine ⟨_, rfl, ?_⟩; intro Az Hz
    refine plz (stw Hz m90 25 fct4 fun w92 m92 _ => ?_)
    refine znl (hK9 _ _ ?_)
    refine wp_region_lit ?_
    refine goCh Hz (.move rfl <| .inc (i + 1) <| .assign rfl .nil) fun Az Hz => ?_
    refine wpList_nil ?_
    show ∃ n', n' < _ ∧ _
    have m96 := m92.freezeR 101 rfl
    exact ⟨30 - (i + 1), by omega, i + 1, tqN y m, _, _, _, _, _, _, _, _, _, _, _, _, _, _, _, _, _, _, _, _, _, by omega, by unfold tqN; omega, rfl, Hz.only [5, 6, 9, 7, 10], m96.ren [(20, 20), (21, 21), (22, 22), (23, 23), (25, 25), (26, 101), (27, 27)] (by decide)⟩
   intro hb71 Hz; try simp only [QQ, Qax] at hb71
   have hmn : ¬ m < y.ws.length := by have := hb71; first | omega | (simp at this; omega)
   revert Hz
   obtain rfl : m = y.ws.length := by omega
   intro Hz
   clear hm9 hi20
   refine wcf Hz ?_
   refine wp_exit ?_
   refine hK6 _ _ ?_
   refine wsk fun K11 hK11 => ?_
   refine wsk fun K12 hK12 => ?_
   replace Hz := Hz.oz [5, 6, 9, 7, 10]
   have m98 := m67.oz [20, 21, 22, 23, 25, 26, 27]
   refine region_p 17 (B := [(20, _), (21, _), (22, _), (23, _), (25, _), (26, _), (27, _)]) (m98.to ⟨il, il, il, il, il, il, il, trivial⟩) m98 (by kernel_rfl) (fun w99 hP99 m99 => ?_); clear m98
   refine goR hP99 [0, 1, 2] [1, 2] 3 0 7 Hz (m99.to ⟨il, il, il, il, il, il, il, trivial⟩) (.fa 4 rfl U36 <| .lb hh 25 U2 rfl rfl rfl <| .loadBR hh (i := 20) rfl rfl U28 rfl fct17 (by simp) (by dsimp only [List.drop, List.take] <;> rfl) .nil) fun Az Hz => ?_
   refine so 3 ?_
   refine ecb Hz Try.func9 rfl m99 (rlen_y y _ _ _ _ _ _ _ _ _) fun Az w103 Hz m104 => ?_
   refine ⟨m104.to ⟨il, il, il, il, il, il, il, trivial⟩, ?_⟩
   refine goA hP99 [4, 5] 2 15 63 Hz (m104.to ⟨il, il, il, il, il, il, il, trivial⟩) (.neq rfl rfl <| .move rfl .nil) fun Az Hz => ?_
   refine bc Hz 71 ?_ ?_
   · intro hb _; exact absurd hb (by first | (simp; done) | (simp; omega))
   clear Hz; intro _ Hz
   refine goR hP99 [6, 7, 8, 9, 10, 11, 12] [7, 9] 7 63 8191 Hz (m104.to ⟨il, il, il, il, il, il, il, trivial⟩) (.fa 5 rfl U36 <| .lb hh 25 U2 rfl rfl rfl <| .fa 8 rfl U28 <| .lb hh 20 U2 rfl rfl rfl <| .neq rfl rfl <| .pickF rfl rfl <| .move rfl .nil) fun Az Hz => ?_
   refine bc Hz 78 ?_ ?_
   · intro hb _; exact absurd hb (by first | (simp; done) | (simp; omega))
   clear Hz; intro _ Hz
   refine goR hP99 [13] [13] 1 8191 16383 Hz (m104.to ⟨il, il, il, il, il, il, il, trivial⟩) (.loadBR hh (i := 25) rfl rfl U36 rfl fct4 (by simp) (by dsimp only [List.drop, List.take] <;> rfl) .nil) fun Az Hz => ?_
   refine stepE_only 14 rfl (by kernel_rfl) (wantedG Hz rfl rfl rfl rfl) (fun K hK => ?_)
   refine e_call Hz Try.func11 rfl rfl rfl rfl (gright_x _ y k fn cnt _ hC hF _ _ _ _ rfl (Nat.le_refl _) (m104.into [(1, 26)] (by decide) rfl)) ?_
   rintro e w118 ⟨rfl, hm118⟩
   have mx118 := m104.back hm118 [(26, 1)] (by decide); clear hm118 m104
   have m118 := mx118.oz [26, 20, 21, 22, 23, 25, 27]
   refine ⟨_, rfl, ?_⟩; intro Az Hz
   refine hK _ _ (m118.to ⟨il, il, il, il, il, il, il, trivial⟩) ?_; clear hK K
   refine goA hP99 [15, 16] 2 32767 131071 Hz (m118.to ⟨il, il, il, il, il, il, il, trivial⟩) (.not rfl <| .pickF rfl rfl .nil) fun Az Hz => ?_
   refine wpAnyE_done (by kernel_rfl) ?_ _
   refine hK12 _ _ ?_
   refine wcf Hz ?_
   refine zss (hK11 _ _ ?_)
   refine wsk fun K13 hK13 => ?_
   replace Hz := Hz.oz [5, 6, 9, 7, 10]
   refine regS Hz (.fa 8 rfl U28 <| .lb m118 20 U2 rfl rfl rfl <| .assign rfl .nil) fun Az Hz => ?_
   refine wp_block ?_
   refine wp_loop_ghost (fun g a w => ∃ (t : Int) (B5 B9 : Nat) (p1 p2 p3 : Option Addr) (d1 d2 d3 : Nat) (pc : Option Addr) (cc : Nat), y.fl ≤ t ∧ t ≤ (y.ws.length : Int) + 1 ∧ g = ((y.ws.length : Int) + 1 - t).toNat ∧ Has 149 [(5, .pointer (some ⟨B5, 0, none⟩)), (6, .int .i64 (k : Int)), (9, .pointer (some ⟨B9, 0, none⟩)), (11, .int .i64 t)] a ∧ MemOk (cn w0) w0 [(20, .box B5 28 [.int .i64 y.vo, .int .i64 y.bl, .int .i64 y.sz, .int .i64 y.pe, .slice p1 y.place.length d1, .int .i64 y.to, .int .i64 y.ne, .bool y.hi, .int .i64 y.fl, .slice p2 y.pins.length d2, .slice p3 (y.ws.map wrD).length d3]), (21, .dat (.slice p1 y.place.length d1) (.ns .i64 y.place)), (22, .dat (.slice p2 y.pins.length d2) (.ns .i64 y.pins)), (23, .dat (.slice p3 (y.ws.map wrD).length d3) (.l 2 (y.ws.map wrD))), (25, .box B9 36 [.int .i64 y.vo, .int .i64 (k : Int), .int .i64 (cnt : Int), .int .i64 y.sz, .int .i64 (y.ws.length : Nat), .int .i64 (min y.fl (y.ws.length : Nat)), .slice pc cnt cc]), (26, .dat (.slice pc cnt cc) (.l 1 ((chN y fn cnt y.ws.length).map hD)))] w) (((y.ws.length : Int) + 1 - y.fl).toNat) ?_ ?_
   · exact ⟨y.fl, _, _, _, _, _, _, _, _, _, _, Int.le_refl _, by omega, rfl, Hz.only [5, 6, 9, 11], m118.ren [(20, 20), (21, 21), (22, 22), (23, 23), (25, 25), (26, 26)] (by decide)⟩
   clear Hz m118
   rintro g Az w126 ⟨t, B5, B9, p1, p2, p3, d1, d2, d3, pc, cc, ht0, ht1, hg, Hz, m126⟩
   refine wsk fun K14 hK14 => ?_
   refine regS Hz (.move rfl <| .fa 4 rfl U36 <| .lb m126 25 U2 rfl rfl rfl <| .leq rfl rfl .nil) fun Az Hz => ?_
   refine bc Hz 88 ?_ ?_
   ·
    intro hb131 Hz; try simp only [QQ, Qax] at hb131
    have htw : t ≤ (y.ws.length : Int) := by have := hb131; first | omega | (simp at this; omega)
    obtain ⟨tn, htn⟩ : ∃ tn : Nat, t = (tn : Int) := ⟨t.toNat, by omega⟩
    refine wct Hz ?_
    refine zss (hK14 _ _ ?_)
    refine wsk fun K15 hK15 => ?_
    refine wp_block ?_
    refine zsr fun K16 hK16 => ?_
    refine goCh Hz (.loadBR m126 (i := 20) rfl rfl U28 rfl fct17 (by simp) (by dsimp only [List.drop, List.take] <;> rfl) <| .move rfl .nil) fun Az Hz => ?_
    refine plz (ecl Hz Try.func12 rfl (rstate_q _ y hF hwo _ _ _ _ _ _ _ _ _ tn htn _ (fun b hb => (List.not_mem_nil (a := b)) hb) (by omega) (by omega) (m126.into [(3, 23)] (by decide) rfl)) ?_)
    rintro e w136 ⟨p136, c136, rfl, hm136⟩
    have mx136 := m126.back hm136 [(23, 3), (200, 9)] (by decide); clear hm136 m126
    have m136 := mx136.oz [23, 200, 20, 21, 22, 25, 26]
    refine ⟨_, rfl, ?_⟩; intro Az Hz
    obtain ⟨S, hS9⟩ : ∃ S, stL y.bl y.sz y.ws tn = S := ⟨_, rfl⟩
    have hSl : S.length = y.bl.toNat := by rw [← hS9, stL_len]
    rw [hS9] at m136 Hz
    refine gz hK16 Hz (.move rfl <| .extract rfl rfl <| .extract rfl rfl <| .assign rfl <| .assign rfl <| .nil) fun Az Hz => ?_
    replace Hz := Hz.oz [5, 6, 9, 11, 12]
    refine regS Hz (.assign rfl .nil) fun Az Hz => ?_
    refine wp_block ?_
    refine wp_loop_ghost (fun g a w => ∃ (b B5 B9 : Nat) (p1 p2 p3 : Option Addr) (d1 d2 d3 : Nat) (pc : Option Addr) (cc : Nat) (ps : Option Addr) (cs : Nat), b ≤ cnt ∧ g = cnt - b ∧ Has 149 [(5, .pointer (some ⟨B5, 0, none⟩)), (6, .int .i64 (k : Int)), (9, .pointer (some ⟨B9, 0, none⟩)), (11, .int .i64 t), (12, .slice ps (S.map bD).length cs), (14, .int .i64 (b : Int))] a ∧ MemOk (cn w0) w0 [(20, .box B5 28 [.int .i64 y.vo, .int .i64 y.bl, .int .i64 y.sz, .int .i64 y.pe, .slice p1 y.place.length d1, .int .i64 y.to, .int .i64 y.ne, .bool y.hi, .int .i64 y.fl, .slice p2 y.pins.length d2, .slice p3 (y.ws.map wrD).length d3]), (21, .dat (.slice p1 y.place.length d1) (.ns .i64 y.place)), (22, .dat (.slice p2 y.pins.length d2) (.ns .i64 y.pins)), (23, .dat (.slice p3 (y.ws.map wrD).length d3) (.l 2 (y.ws.map wrD))), (25, .box B9 36 [.int .i64 y.vo, .int .i64 (k : Int), .int .i64 (cnt : Int), .int .i64 y.sz, .int .i64 (y.ws.length : Nat), .int .i64 (min y.fl (y.ws.length : Nat)), .slice pc cnt cc]), (26, .dat (.slice pc cnt cc) (.l 1 ((chN y fn cnt y.ws.length).map hD))), (28, .dat (.slice ps (S.map bD).length cs) (.l 1 (S.map bD)))] w) (cnt) ?_ ?_
    · exact ⟨0, _, _, _, _, _, _, _, _, _, _, _, _, Nat.zero_le _, rfl, Hz.only [5, 6, 9, 11, 12, 14], m136.ren [(20, 20), (21, 21), (22, 22), (23, 23), (25, 25), (26, 26), (28, 200)] (by decide)⟩
    clear Hz m136
    rintro g Az w145 ⟨b, B5, B9, p1, p2, p3, d1, d2, d3, pc, cc, ps, cs, hbl, hg2, Hz, m145⟩
    refine wsk fun K17 hK17 => ?_
    refine regS Hz (.move rfl <| .fa 2 rfl U36 <| .lb m145 25 U3 rfl rfl rfl <| .lss rfl rfl .nil) fun Az Hz => ?_
    refine bc Hz 100 ?_ ?_
    ·
     intro hb150 Hz; try simp only [QQ, Qax] at hb150
     have hbc : b < cnt := by have := hb150; first | omega | (simp at this; omega)
     refine wct Hz ?_
     refine zss (hK17 _ _ ?_)
     refine wsk fun K18 hK18 => ?_
     refine wp_block ?_
     refine zsr fun K19 hK19 => ?_
     refine goCh Hz (.loadBR m145 (i := 25) rfl rfl U36 rfl fct4 (by simp) (by dsimp only [List.drop, List.take] <;> rfl) <| .move rfl <| .move rfl .nil) fun Az Hz => ?_
     refine plz (ecl Hz Try.func13 rfl (gread_y _ y k fn cnt hC hF _ b tn _ _ _ _ S hS9 htn (by omega) hbc (by omega) (by omega) (m145.into [(1, 26)] (by decide) rfl)) ?_)
     rintro e w157 ⟨p157, c157, rfl, hm157⟩
     have mx157 := m145.back hm157 [(26, 1), (300, 9)] (by decide); clear hm157 m145
     have m157 := mx157.oz [26, 300, 20, 21, 22, 23, 25, 28]
     refine ⟨_, rfl, ?_⟩; intro Az Hz
     refine gz hK19 Hz (.move rfl <| .extract rfl rfl <| .extract rfl rfl <| .assign rfl <| .assign rfl <| .nil) fun Az Hz => ?_
     refine wsk fun K20 hK20 => ?_
     replace Hz := Hz.oz [5, 6, 9, 11, 12, 14, 15, 16]
     obtain ⟨b165, o165, vs165, hp165, hR165, ho165, m165⟩ := m157.openR (i := 28) rfl ((fn + b)) (r := [.ns .u8 (S.getD (fn + b) [])]) (bD_get (by omega)) 301 rfl
     revert Hz
     cases hp165; clear m157 ho165
     rcases hR165 with _ | ⟨hd165_0, _ | _⟩
     obtain ⟨p166, c166, hv166, hc166⟩ := hd165_0.ns_shape; subst hv166
     intro Hz
     have m166 := m165.dat 302 rfl (hd165_0.cast (fun _ h => (free_add rfl h))); clear m165 hd165_0
     have m167 := m166.oz [20, 21, 22, 23, 25, 26, 28, 300, 301, 302]
     refine region_p 17 (B := [(20, _), (21, _), (22, _), (23, _), (25, _), (26, _), (28, _), (300, _), (301, _), (302, _)]) (m167.to ⟨il, il, il, il, il, il, il, il, il, il, trivial⟩) m167 (by kernel_rfl) (fun w168 hP168 m168 => ?_); clear m167
     refine goA hP168 [0, 1, 2] 3 0 7 Hz (m168.to ⟨il, il, il, il, il, il, il, il, il, il, trivial⟩) (.move rfl <| .neq rfl rfl <| .move rfl .nil) fun Az Hz => ?_
     refine bc Hz 112 ?_ ?_
     · intro hb _; exact absurd hb (by first | (simp; done) | (simp; omega))
     clear Hz; intro _ Hz
     refine goR hP168 [3, 4, 5, 6, 7, 8, 9, 10, 11, 12, 13, 14, 15, 16] [4, 8, 13, 14] 14 7 131071 Hz (m168.to ⟨il, il, il, il, il, il, il, il, il, il, trivial⟩) (.move rfl <| .str rfl (fun _ h_ => (h_.nums (i := 300) rfl)) U22 U5 U9 <| .move rfl <| .move rfl <| .fa 3 rfl U28 <| .lb hh 20 U3 rfl rfl rfl <| .mul rfl rfl (r := (fn : Int)) (by rw [← hC.fe]; exact IntWalk.i64_in _ (by omega)) <| .move rfl <| .add rfl rfl (r := ((fn + b : Nat) : Int)) (by rw [IntWalk.i64_in _ (by omega)]; omega) <| .p (fun _ _ h_ => y_idx h_ rfl rfl U41 fct16 ((fn + b)) rfl (by rw [List.length_map]; omega)) <| .loadC0 hh (i := 301) rfl rfl U22 rfl <| .str rfl (fun _ h_ => (h_.nums (i := 302) rfl)) U22 U5 U9 <| .neqS rfl rfl <| .pickF rfl rfl .nil) fun Az Hz => ?_
     refine wpAnyE_done (by kernel_rfl) ?_ _
     refine hK20 _ _ ?_
     refine bc Hz 126 ?_ ?_
     · intro hb _; exact absurd hb (by first | (simp; done) | (simp; omega))
     clear Hz; intro _ Hz
     refine wcf Hz ?_
     refine zss (hK18 _ _ ?_)
     replace Hz := Hz.oz [5, 6, 9, 11, 12, 14]
     refine wp_region_lit ?_
     refine goCh Hz (.move rfl <| .inc (b + 1) <| .assign rfl .nil) fun Az Hz => ?_
     refine wpList_nil ?_
     show ∃ n', n' < _ ∧ _
     exact ⟨cnt - (b + 1), by omega, b + 1, _, _, _, _, _, _, _, _, _, _, _, _, by omega, rfl, Hz.only [5, 6, 9, 11, 12, 14], m168.ren [(20, 20), (21, 21), (22, 22), (23, 23), (25, 25), (26, 26), (28, 28)] (by decide)⟩
    intro hb150 Hz; try simp only [QQ, Qax] at hb150
    refine wcf Hz ?_
    refine wp_exit ?_
    refine hK15 _ _ ?_
    refine wp_region_lit ?_
    refine goCh Hz (.move rfl <| .add rfl rfl (r := t + 1) (IntWalk.i64_in _ (by omega)) <| .assign rfl .nil) fun Az Hz => ?_
    refine wpList_nil ?_
    show ∃ n', n' < _ ∧ _
    exact ⟨((y.ws.length : Int) + 1 - (t + 1)).toNat, by omega, t + 1, _, _, _, _, _, _, _, _, _, _, by omega, by omega, rfl, Hz.only [5, 6, 9, 11], m145.ren [(20, 20), (21, 21), (22, 22), (23, 23), (25, 25), (26, 26)] (by decide)⟩
   intro hb131 Hz; try simp only [QQ, Qax] at hb131
   refine wcf Hz ?_
   refine wp_exit ?_
   refine hK13 _ _ ?_
   refine zsr fun K21 hK21 => ?_
   refine goCh Hz (.loadBR m126 (i := 25) rfl rfl U36 rfl fct4 (by simp) (by dsimp only [List.drop, List.take] <;> rfl) <| .fa 4 rfl U36 <| .lb m126 25 U2 rfl rfl rfl <| .add rfl rfl (r := (y.ws.length : Int) + 1) (IntWalk.i64_in _ (by omega)) .nil) fun Az Hz => ?_
   refine plz (ecb Hz Try.func13 rfl m126 (cread_32 _ _ _ _ _ _ _ _ _ _ _ _ ⟨by omega, by omega, by omega⟩ (by omega) (by omega)) fun Az w203 Hz m204 => ?_)
   refine gz hK21 Hz (.move rfl <| .extract rfl rfl <| .extract rfl rfl <| .assign rfl <| .assign rfl <| .nil) fun Az Hz => ?_
   replace Hz := Hz.oz [5, 6, 9, 11, 18]
   refine zsr fun K22 hK22 => ?_
   refine goCh Hz (.loadBR m204 (i := 25) rfl rfl U36 rfl fct4 (by simp) (by dsimp only [List.drop, List.take] <;> rfl) <| .fa 5 rfl U36 <| .lb m204 25 U2 rfl rfl rfl <| .sub rfl rfl (r := min y.fl (y.ws.length : Int) - 1) (IntWalk.i64_in _ (by omega)) .nil) fun Az Hz => ?_
   refine plz (ecb Hz Try.func13 rfl m204 (cread_30 _ _ _ _ _ _ _ _ _ _ _ _ ⟨by omega, by omega, by omega⟩ (by omega)) fun Az w220 Hz m221 => ?_)
   refine gz hK22 Hz (.move rfl <| .extract rfl rfl <| .extract rfl rfl <| .assign rfl <| .assign rfl <| .nil) fun Az Hz => ?_
   replace Hz := Hz.oz [5, 6, 9, 11, 18, 20]
   refine zsr fun K23 hK23 => ?_
   refine goCh Hz (.move rfl <| .eql rfl rfl <| .move rfl .nil) fun Az Hz => ?_
   refine bc Hz 145 ?_ ?_
   rotate_left
   · intro hb _; exact absurd hb (by simp)
   clear Hz; intro _ Hz
   refine gz hK23 Hz (.moveZ rfl <| .eqlZ rfl rfl <| .pickT rfl rfl <| .assign rfl <| .nil) fun Az Hz => ?_
   refine rt1 Hz ?_
   exact ⟨by (first | rfl | simp), m221.below⟩
  refine e_alloc Hz m46 67 fct6 rfl fun g240 Az w241 Hz m241 _ _ => ?_
  refine ⟨fun _ => (m241.to ⟨il, il, il, il, il, il, trivial⟩), ?_⟩
  have m242 := m241.freezeR 66 rfl
  refine so 3 ?_
  refine ecl Hz Try.func10 rfl (gapply_x _ y k fn cnt 0 hC hF _ _ _ _ _ _ _ rfl (by omega) (Nat.zero_le _) (m242.into [(1, 66), (2, 64)] (by decide) rfl)) ?_
  rintro e w243 ⟨p243, c243, rfl, hm243⟩
  have mx243 := m242.back hm243 [(66, 1), (64, 2), (68, 9)] (by decide); clear hm243 m242
  have m243 := mx243.oz [66, 64, 68, 60, 61, 62, 63, 65, 67]
  refine ⟨_, rfl, ?_⟩; intro Az Hz
  refine ⟨m243.to ⟨il, il, il, il, il, il, trivial⟩, ?_⟩
  refine se 5 ?_
  refine stw Hz m243 67 fct4 fun w245 m245 _ => ?_
  refine wpAnyE_done (by kernel_rfl) ?_ _
  refine hK5 _ _ ?_
  refine wsk fun K24 hK24 => ?_
  refine regS Hz (.assign rfl .nil) fun Az Hz => ?_
  refine wp_block ?_
  have m247 := m245.freezeR 68 rfl
  refine wp_loop_ghost (fun g a w => ∃ (i m B5 B7 B9 : Nat) (p1 p2 p3 : Option Addr) (d1 d2 d3 : Nat) (pc : Option Addr) (cc : Nat) (a1 a2 a3 a4 a5 a6 a7 : Int) (pq : Option Addr) (nq cq : Nat), i ≤ 20 ∧ m = min (4 * (i + 1)) y.ws.length ∧ g = 30 - i ∧ Has 149 [(5, .pointer (some ⟨B5, 0, none⟩)), (6, .int .i64 (k : Int)), (9, .pointer (some ⟨B9, 0, none⟩)), (7, .pointer (some ⟨B7, 0, none⟩)), (10, .int .i64 (i : Int))] a ∧ MemOk (cn w0) w0 [(20, .box B5 28 [.int .i64 y.vo, .int .i64 y.bl, .int .i64 y.sz, .int .i64 y.pe, .slice p1 y.place.length d1, .int .i64 y.to, .int .i64 y.ne, .bool y.hi, .int .i64 y.fl, .slice p2 y.pins.length d2, .slice p3 (y.ws.map wrD).length d3]), (21, .dat (.slice p1 y.place.length d1) (.ns .i64 y.place)), (22, .dat (.slice p2 y.pins.length d2) (.ns .i64 y.pins)), (23, .dat (.slice p3 (y.ws.map wrD).length d3) (.l 2 (y.ws.map wrD))), (25, .box B9 36 [.int .i64 y.vo, .int .i64 (k : Int), .int .i64 (cnt : Int), .int .i64 y.sz, .int .i64 (m : Nat), .int .i64 (min y.fl (m : Nat)), .slice pc cnt cc]), (26, .dat (.slice pc cnt cc) (.l 1 ((chN y fn cnt m).map hD))), (27, .box B7 31 [.int .i64 a1, .int .i64 a2, .int .i64 a3, .int .i64 a4, .int .i64 a5, .int .i64 a6, .int .i64 a7, .slice pq nq cq])] w) (30) ?_ ?_
  · exact ⟨0, tqN y 0, _, _, _, _, _, _, _, _, _, _, _, _, _, _, _, _, _, _, _, _, _, by omega, by unfold tqN; omega, rfl, Hz.only [5, 6, 9, 7, 10], m247.ren [(20, 63), (21, 60), (22, 61), (23, 62), (25, 67), (26, 68), (27, 65)] (by decide)⟩
  clear Hz m247
  rintro g Az w248 ⟨i, m, B5, B7, B9, p1, p2, p3, d1, d2, d3, pc, cc, a1, a2, a3, a4, a5, a6, a7, pq, nq, cq, hi20, hm9, hg, Hz, m248⟩
  refine wsk fun K25 hK25 => ?_
  refine wsk fun K26 hK26 => ?_
  have m249 := m248.oz [20, 21, 22, 23, 25, 26, 27]
  refine region_p 9 (B := [(20, _), (21, _), (22, _), (23, _), (25, _), (26, _), (27, _)]) (m249.to ⟨il, il, il, il, il, il, il, trivial⟩) m249 (by kernel_rfl) (fun w250 hP250 m250 => ?_); clear m249
  refine goA hP250 [0, 1, 2] 3 0 7 Hz (m250.to ⟨il, il, il, il, il, il, il, trivial⟩) (.move rfl <| .lss rfl rfl <| .move rfl .nil) fun Az Hz => ?_
  refine bc Hz 46 ?_ ?_
  rotate_left
  · intro hb _; exact absurd hb (by simp; omega)
  clear Hz; intro _ Hz
  refine goR hP250 [3, 4, 5] [4, 5] 3 7 63 Hz (m250.to ⟨il, il, il, il, il, il, il, trivial⟩) (.fa 4 rfl U36 <| .lb hh 25 U2 rfl rfl rfl <| .loadBR hh (i := 20) rfl rfl U28 rfl fct17 (by simp) (by dsimp only [List.drop, List.take] <;> rfl) .nil) fun Az Hz => ?_
  refine stepE_only 6 rfl (by kernel_rfl) (wantedG Hz rfl rfl rfl rfl) (fun K hK => ?_)
  refine e_call Hz Try.func9 rfl rfl rfl rfl (rlen_y y _ _ _ _ _ _ _ _ _) ?_
  rintro e w258 ⟨rfl, hb258⟩
  have m259 := m250.later hb258
  refine ⟨_, rfl, ?_⟩; intro Az Hz
  refine hK _ _ (m259.to ⟨il, il, il, il, il, il, il, trivial⟩) ?_; clear hK K
  refine goA hP250 [7, 8] 2 127 511 Hz (m259.to ⟨il, il, il, il, il, il, il, trivial⟩) (.lss rfl rfl <| .pickT rfl rfl .nil) fun Az Hz => ?_
  refine wpAnyE_done (by kernel_rfl) ?_ _
  refine hK26 _ _ ?_
  refine bc Hz 52 ?_ ?_
  ·
   intro hb263 Hz; try simp only [QQ, Qax] at hb263
   have hmn : m < y.ws.length := by have := hb263; first | omega | (simp at this; omega)
   refine wct Hz ?_
   refine zss (hK25 _ _ ?_)
   refine wsk fun K27 hK27 => ?_
   refine wp_block ?_
   replace Hz := Hz.oz [5, 6, 9, 7, 10]
   refine zsr fun K28 hK28 => ?_
   refine goCh Hz (.loadBR m259 (i := 20) rfl rfl U28 rfl fct17 (by simp) (by dsimp only [List.drop, List.take] <;> rfl) <| .move rfl <| .fa 4 rfl U36 <| .lb m259 25 U2 rfl rfl rfl .nil) fun Az Hz => ?_
   refine plz (ecl Hz Try.func7 rfl (gpush_x _ y k fn cnt m hC hF hwo _ _ _ _ _ _ _ _ _ rfl (by omega) (m259.into [(3, 23)] (by decide) rfl)) ?_)
   rintro e w273 ⟨p273, c273, rfl, hm273⟩
   have mx273 := m259.back hm273 [(23, 3), (100, 9)] (by decide); clear hm273 m259
   have m273 := mx273.oz [23, 100, 20, 21, 22, 25, 26, 27]
   refine ⟨_, rfl, ?_⟩; intro Az Hz
   refine goCh Hz (.move rfl <| .extract rfl rfl <| .extract rfl rfl .nil) fun Az Hz => ?_
   refine plz (stw Hz m273 27 fct3 fun w278 m278 _ => ?_)
   refine znl (hK28 _ _ ?_)
   replace Hz := Hz.oz [5, 6, 9, 7, 10]
   refine wp_region_lit ?_
   refine goCh Hz (.loadBR m278 (i := 25) rfl rfl U36 rfl fct4 (by simp) (by dsimp only [List.drop, List.take] <;> rfl) <| .loadBR m278 (i := 27) rfl rfl U31 rfl fct3 (by simp) (by dsimp only [List.drop, List.take] <;> rfl) .nil) fun Az Hz => ?_
   refine plz (ecl Hz Try.func10 rfl (gapply_x _ y k fn cnt m hC hF _ _ _ _ _ _ _ rfl rfl (by omega) (m278.into [(1, 26), (2, 100)] (by decide) rfl)) ?_)
   rintro e w282 ⟨p282, c282, rfl, hm282⟩
   have mx282 := m278.back hm282 [(26, 1), (100, 2), (101, 9)] (by decide); clear hm282 m278
   have m282 := mx282.oz [26, 100, 101, 20, 21, 22, 23, 25, 27]
   refine ⟨_, rfl, ?_⟩; intro Az Hz
   refine plz (stw Hz m282 25 fct4 fun w284 m284 _ => ?_)
   refine znl (hK27 _ _ ?_)
   refine wp_region_lit ?_
   refine goCh Hz (.move rfl <| .inc (i + 1) <| .assign rfl .nil) fun Az Hz => ?_
   refine wpList_nil ?_
   show ∃ n', n' < _ ∧ _
   have m288 := m284.freezeR 101 rfl
   exact ⟨30 - (i + 1), by omega, i + 1, tqN y m, _, _, _, _, _, _, _, _, _, _, _, _, _, _, _, _, _, _, _, _, _, by omega, by unfold tqN; omega, rfl, Hz.only [5, 6, 9, 7, 10], m288.ren [(20, 20), (21, 21), (22, 22), (23, 23), (25, 25), (26, 101), (27, 27)] (by decide)⟩
  intro hb263 Hz; try simp only [QQ, Qax] at hb263
  have hmn : ¬ m < y.ws.length := by have := hb263; first | omega | (simp at this; omega)
  revert Hz
  obtain rfl : m = y.ws.length := by omega
  intro Hz
  clear hm9 hi20
  refine wcf Hz ?_
  refine wp_exit ?_
  refine hK24 _ _ ?_
  refine wsk fun K29 hK29 => ?_
  refine wsk fun K30 hK30 => ?_
  replace Hz := Hz.oz [5, 6, 9, 7, 10]
  have m290 := m259.oz [20, 21, 22, 23, 25, 26, 27]
  refine region_p 17 (B := [(20, _), (21, _), (22, _), (23, _), (25, _), (26, _), (27, _)]) (m290.to ⟨il, il, il, il, il, il, il, trivial⟩) m290 (by kernel_rfl) (fun w291 hP291 m291 => ?_); clear m290
  refine goR hP291 [0, 1, 2] [1, 2] 3 0 7 Hz (m291.to ⟨il, il, il, il, il, il, il, trivial⟩) (.fa 4 rfl U36 <| .lb hh 25 U2 rfl rfl rfl <| .loadBR hh (i := 20) rfl rfl U28 rfl fct17 (by simp) (by dsimp only [List.drop, List.take] <;> rfl) .nil) fun Az Hz => ?_
  refine so 3 ?_
  refine ecb Hz Try.func9 rfl m291 (rlen_y y _ _ _ _ _ _ _ _ _) fun Az w295 Hz m296 => ?_
  refine ⟨m296.to ⟨il, il, il, il, il, il, il, trivial⟩, ?_⟩
  refine goA hP291 [4, 5] 2 15 63 Hz (m296.to ⟨il, il, il, il, il, il, il, trivial⟩) (.neq rfl rfl <| .move rfl .nil) fun Az Hz => ?_
  refine bc Hz 71 ?_ ?_
  · intro hb _; exact absurd hb (by first | (simp; done) | (simp; omega))
  clear Hz; intro _ Hz
  refine goR hP291 [6, 7, 8, 9, 10, 11, 12] [7, 9] 7 63 8191 Hz (m296.to ⟨il, il, il, il, il, il, il, trivial⟩) (.fa 5 rfl U36 <| .lb hh 25 U2 rfl rfl rfl <| .fa 8 rfl U28 <| .lb hh 20 U2 rfl rfl rfl <| .neq rfl rfl <| .pickF rfl rfl <| .move rfl .nil) fun Az Hz => ?_
  refine bc Hz 78 ?_ ?_
  · intro hb _; exact absurd hb (by first | (simp; done) | (simp; omega))
  clear Hz; intro _ Hz
  refine goR hP291 [13] [13] 1 8191 16383 Hz (m296.to ⟨il, il, il, il, il, il, il, trivial⟩) (.loadBR hh (i := 25) rfl rfl U36 rfl fct4 (by simp) (by dsimp only [List.drop, List.take] <;> rfl) .nil) fun Az Hz => ?_
  refine stepE_only 14 rfl (by kernel_rfl) (wantedG Hz rfl rfl rfl rfl) (fun K hK => ?_)
  refine e_call Hz Try.func11 rfl rfl rfl rfl (gright_x _ y k fn cnt _ hC hF _ _ _ _ rfl (Nat.le_refl _) (m296.into [(1, 26)] (by decide) rfl)) ?_
  rintro e w310 ⟨rfl, hm310⟩
  have mx310 := m296.back hm310 [(26, 1)] (by decide); clear hm310 m296
  have m310 := mx310.oz [26, 20, 21, 22, 23, 25, 27]
  refine ⟨_, rfl, ?_⟩; intro Az Hz
  refine hK _ _ (m310.to ⟨il, il, il, il, il, il, il, trivial⟩) ?_; clear hK K
  refine goA hP291 [15, 16] 2 32767 131071 Hz (m310.to ⟨il, il, il, il, il, il, il, trivial⟩) (.not rfl <| .pickF rfl rfl .nil) fun Az Hz => ?_
  refine wpAnyE_done (by kernel_rfl) ?_ _
  refine hK30 _ _ ?_
  refine wcf Hz ?_
  refine zss (hK29 _ _ ?_)
  refine wsk fun K31 hK31 => ?_
  replace Hz := Hz.oz [5, 6, 9, 7, 10]
  refine regS Hz (.fa 8 rfl U28 <| .lb m310 20 U2 rfl rfl rfl <| .assign rfl .nil) fun Az Hz => ?_
  refine wp_block ?_
  refine wp_loop_ghost (fun g a w => ∃ (t : Int) (B5 B9 : Nat) (p1 p2 p3 : Option Addr) (d1 d2 d3 : Nat) (pc : Option Addr) (cc : Nat), y.fl ≤ t ∧ t ≤ (y.ws.length : Int) + 1 ∧ g = ((y.ws.length : Int) + 1 - t).toNat ∧ Has 149 [(5, .pointer (some ⟨B5, 0, none⟩)), (6, .int .i64 (k : Int)), (9, .pointer (some ⟨B9, 0, none⟩)), (11, .int .i64 t)] a ∧ MemOk (cn w0) w0 [(20, .box B5 28 [.int .i64 y.vo, .int .i64 y.bl, .int .i64 y.sz, .int .i64 y.pe, .slice p1 y.place.length d1, .int .i64 y.to, .int .i64 y.ne, .bool y.hi, .int .i64 y.fl, .slice p2 y.pins.length d2, .slice p3 (y.ws.map wrD).length d3]), (21, .dat (.slice p1 y.place.length d1) (.ns .i64 y.place)), (22, .dat (.slice p2 y.pins.length d2) (.ns .i64 y.pins)), (23, .dat (.slice p3 (y.ws.map wrD).length d3) (.l 2 (y.ws.map wrD))), (25, .box B9 36 [.int .i64 y.vo, .int .i64 (k : Int), .int .i64 (cnt : Int), .int .i64 y.sz, .int .i64 (y.ws.length : Nat), .int .i64 (min y.fl (y.ws.length : Nat)), .slice pc cnt cc]), (26, .dat (.slice pc cnt cc) (.l 1 ((chN y fn cnt y.ws.length).map hD)))] w) (((y.ws.length : Int) + 1 - y.fl).toNat) ?_ ?_
  · exact ⟨y.fl, _, _, _, _, _, _, _, _, _, _, Int.le_refl _, by omega, rfl, Hz.only [5, 6, 9, 11], m310.ren [(20, 20), (21, 21), (22, 22), (23, 23), (25, 25), (26, 26)] (by decide)⟩
  clear Hz m310
  rintro g Az w318 ⟨t, B5, B9, p1, p2, p3, d1, d2, d3, pc, cc, ht0, ht1, hg, Hz, m318⟩
  refine wsk fun K32 hK32 => ?_
  refine regS Hz (.move rfl <| .fa 4 rfl U36 <| .lb m318 25 U2 rfl rfl rfl <| .leq rfl rfl .nil) fun Az Hz => ?_
  refine bc Hz 88 ?_ ?_
  ·
   intro hb323 Hz; try simp only [QQ, Qax] at hb323
   have htw : t ≤ (y.ws.length : Int) := by have := hb323; first | omega | (simp at this; omega)
   obtain ⟨tn, htn⟩ : ∃ tn : Nat, t = (tn : Int) := ⟨t.toNat, by omega⟩
   refine wct Hz ?_
   refine zss (hK32 _ _ ?_)
   refine wsk fun K33 hK33 => ?_
   refine wp_block ?_
   refine zsr fun K34 hK34 => ?_
   refine goCh Hz (.loadBR m318 (i := 20) rfl rfl U28 rfl fct17 (by simp) (by dsimp only [List.drop, List.take] <;> rfl) <| .move rfl .nil) fun Az Hz => ?_
   refine plz (ecl Hz Try.func12 rfl (rstate_q _ y hF hwo _ _ _ _ _ _ _ _ _ tn htn _ (fun b hb => (List.not_mem_nil (a := b)) hb) (by omega) (by omega) (m318.into [(3, 23)] (by decide) rfl)) ?_)
   rintro e w328 ⟨p328, c328, rfl, hm328⟩
   have mx328 := m318.back hm328 [(23, 3), (200, 9)] (by decide); clear hm328 m318
   have m328 := mx328.oz [23, 200, 20, 21, 22, 25, 26]
   refine ⟨_, rfl, ?_⟩; intro Az Hz
   obtain ⟨S, hS9⟩ : ∃ S, stL y.bl y.sz y.ws tn = S := ⟨_, rfl⟩
   have hSl : S.length = y.bl.toNat := by rw [← hS9, stL_len]
   rw [hS9] at m328 Hz
   refine gz hK34 Hz (.move rfl <| .extract rfl rfl <| .extract rfl rfl <| .assign rfl <| .assign rfl <| .nil) fun Az Hz => ?_
   replace Hz := Hz.oz [5, 6, 9, 11, 12]
   refine regS Hz (.assign rfl .nil) fun Az Hz => ?_
   refine wp_block ?_
   refine wp_loop_ghost (fun g a w => ∃ (b B5 B9 : Nat) (p1 p2 p3 : Option Addr) (d1 d2 d3 : Nat) (pc : Option Addr) (cc : Nat) (ps : Option Addr) (cs : Nat), b ≤ cnt ∧ g = cnt - b ∧ Has 149 [(5, .pointer (some ⟨B5, 0, none⟩)), (6, .int .i64 (k : Int)), (9, .pointer (some ⟨B9, 0, none⟩)), (11, .int .i64 t), (12, .slice ps (S.map bD).length cs), (14, .int .i64 (b : Int))] a ∧ MemOk (cn w0) w0 [(20, .box B5 28 [.int .i64 y.vo, .int .i64 y.bl, .int .i64 y.sz, .int .i64 y.pe, .slice p1 y.place.length d1, .int .i64 y.to, .int .i64 y.ne, .bool y.hi, .int .i64 y.fl, .slice p2 y.pins.length d2, .slice p3 (y.ws.map wrD).length d3]), (21, .dat (.slice p1 y.place.length d1) (.ns .i64 y.place)), (22, .dat (.slice p2 y.pins.length d2) (.ns .i64 y.pins)), (23, .dat (.slice p3 (y.ws.map wrD).length d3) (.l 2 (y.ws.map wrD))), (25, .box B9 36 [.int .i64 y.vo, .int .i64 (k : Int), .int .i64 (cnt : Int), .int .i64 y.sz, .int .i64 (y.ws.length : Nat), .int .i64 (min y.fl (y.ws.length : Nat)), .slice pc cnt cc]), (26, .dat (.slice pc cnt cc) (.l 1 ((chN y fn cnt y.ws.length).map hD))), (28, .dat (.slice ps (S.map bD).length cs) (.l 1 (S.map bD)))] w) (cnt) ?_ ?_
   · exact ⟨0, _, _, _, _, _, _, _, _, _, _, _, _, Nat.zero_le _, rfl, Hz.only [5, 6, 9, 11, 12, 14], m328.ren [(20, 20), (21, 21), (22, 22), (23, 23), (25, 25), (26, 26), (28, 200)] (by decide)⟩
   clear Hz m328
   rintro g Az w337 ⟨b, B5, B9, p1, p2, p3, d1, d2, d3, pc, cc, ps, cs, hbl, hg2, Hz, m337⟩
   refine wsk fun K35 hK35 => ?_
   refine regS Hz (.move rfl <| .fa 2 rfl U36 <| .lb m337 25 U3 rfl rfl rfl <| .lss rfl rfl .nil) fun Az Hz => ?_
   refine bc Hz 100 ?_ ?_
   ·
    intro hb342 Hz; try simp only [QQ, Qax] at hb342
    have hbc : b < cnt := by have := hb342; first | omega | (simp at this; omega)
    refine wct Hz ?_
    refine zss (hK35 _ _ ?_)
    refine wsk fun K36 hK36 => ?_
    refine wp_block ?_
    refine zsr fun K37 hK37 => ?_
    refine goCh Hz (.loadBR m337 (i := 25) rfl rfl U36 rfl fct4 (by simp) (by dsimp only [List.drop, List.take] <;> rfl) <| .move rfl <| .move rfl .nil) fun Az Hz => ?_
    refine plz (ecl Hz Try.func13 rfl (gread_y _ y k fn cnt hC hF _ b tn _ _ _ _ S hS9 htn (by omega) hbc (by omega) (by omega) (m337.into [(1, 26)] (by decide) rfl)) ?_)
    rintro e w349 ⟨p349, c349, rfl, hm349⟩
    have mx349 := m337.back hm349 [(26, 1), (300, 9)] (by decide); clear hm349 m337
    have m349 := mx349.oz [26, 300, 20, 21, 22, 23, 25, 28]
    refine ⟨_, rfl, ?_⟩; intro Az Hz
    refine gz hK37 Hz (.move rfl <| .extract rfl rfl <| .extract rfl rfl <| .assign rfl <| .assign rfl <| .nil) fun Az Hz => ?_
    refine wsk fun K38 hK38 => ?_
    replace Hz := Hz.oz [5, 6, 9, 11, 12, 14, 15, 16]
    obtain ⟨b357, o357, vs357, hp357, hR357, ho357, m357⟩ := m349.openR (i := 28) rfl ((fn + b)) (r := [.ns .u8 (S.getD (fn + b) [])]) (bD_get (by omega)) 301 rfl
    revert Hz
    cases hp357; clear m349 ho357
    rcases hR357 with _ | ⟨hd357_0, _ | _⟩
    obtain ⟨p358, c358, hv358, hc358⟩ := hd357_0.ns_shape; subst hv358
    intro Hz
    have m358 := m357.dat 302 rfl (hd357_0.cast (fun _ h => (free_add rfl h))); clear m357 hd357_0
    have m359 := m358.oz [20, 21, 22, 23, 25, 26, 28, 300, 301, 302]
    refine region_p 17 (B := [(20, _), (21, _), (22, _), (23, _), (25, _), (26, _), (28, _), (300, _), (301, _), (302, _)]) (m359.to ⟨il, il, il, il, il, il, il, il, il, il, trivial⟩) m359 (by kernel_rfl) (fun w360 hP360 m360 => ?_); clear m359
    refine goA hP360 [0, 1, 2] 3 0 7 Hz (m360.to ⟨il, il, il, il, il, il, il, il, il, il, trivial⟩) (.move rfl <| .neq rfl rfl <| .move rfl .nil) fun Az Hz => ?_
    refine bc Hz 112 ?_ ?_
    · intro hb _; exact absurd hb (by first | (simp; done) | (simp; omega))
    clear Hz; intro _ Hz
    refine goR hP360 [3, 4, 5, 6, 7, 8, 9, 10, 11, 12, 13, 14, 15, 16] [4, 8, 13, 14] 14 7 131071 Hz (m360.to ⟨il, il, il, il, il, il, il, il, il, il, trivial⟩) (.move rfl <| .str rfl (fun _ h_ => (h_.nums (i := 300) rfl)) U22 U5 U9 <| .move rfl <| .move rfl <| .fa 3 rfl U28 <| .lb hh 20 U3 rfl rfl rfl <| .mul rfl rfl (r := (fn : Int)) (by rw [← hC.fe]; exact IntWalk.i64_in _ (by omega)) <| .move rfl <| .add rfl rfl (r := ((fn + b : Nat) : Int)) (by rw [IntWalk.i64_in _ (by omega)]; omega) <| .p (fun _ _ h_ => y_idx h_ rfl rfl U41 fct16 ((fn + b)) rfl (by rw [List.length_map]; omega)) <| .loadC0 hh (i := 301) rfl rfl U22 rfl <| .str rfl (fun _ h_ => (h_.nums (i := 302) rfl)) U22 U5 U9 <| .neqS rfl rfl <| .pickF rfl rfl .nil) fun Az Hz => ?_
    refine wpAnyE_done (by kernel_rfl) ?_ _
    refine hK38 _ _ ?_
    refine bc Hz 126 ?_ ?_
    · intro hb _; exact absurd hb (by first | (simp; done) | (simp; omega))
    clear Hz; intro _ Hz
    refine wcf Hz ?_
    refine zss (hK36 _ _ ?_)
    replace Hz := Hz.oz [5, 6, 9, 11, 12, 14]
    refine wp_region_lit ?_
    refine goCh Hz (.move rfl <| .inc (b + 1) <| .assign rfl .nil) fun Az Hz => ?_
    refine wpList_nil ?_
    show ∃ n', n' < _ ∧ _
    exact ⟨cnt - (b + 1), by omega, b + 1, _, _, _, _, _, _, _, _, _, _, _, _, by omega, rfl, Hz.only [5, 6, 9, 11, 12, 14], m360.ren [(20, 20), (21, 21), (22, 22), (23, 23), (25, 25), (26, 26), (28, 28)] (by decide)⟩
   intro hb342 Hz; try simp only [QQ, Qax] at hb342
   refine wcf Hz ?_
   refine wp_exit ?_
   refine hK33 _ _ ?_
   refine wp_region_lit ?_
   refine goCh Hz (.move rfl <| .add rfl rfl (r := t + 1) (IntWalk.i64_in _ (by omega)) <| .assign rfl .nil) fun Az Hz => ?_
   refine wpList_nil ?_
   show ∃ n', n' < _ ∧ _
   exact ⟨((y.ws.length : Int) + 1 - (t + 1)).toNat, by omega, t + 1, _, _, _, _, _, _, _, _, _, _, by omega, by omega, rfl, Hz.only [5, 6, 9, 11], m337.ren [(20, 20), (21, 21), (22, 22), (23, 23), (25, 25), (26, 26)] (by decide)⟩
  intro hb323 Hz; try simp only [QQ, Qax] at hb323
  refine wcf Hz ?_
  refine wp_exit ?_
  refine hK31 _ _ ?_
  refine zsr fun K39 hK39 => ?_
  refine goCh Hz (.loadBR m318 (i := 25) rfl rfl U36 rfl fct4 (by simp) (by dsimp only [List.drop, List.take] <;> rfl) <| .fa 4 rfl U36 <| .lb m318 25 U2 rfl rfl rfl <| .add rfl rfl (r := (y.ws.length : Int) + 1) (IntWalk.i64_in _ (by omega)) .nil) fun Az Hz => ?_
  refine plz (ecb Hz Try.func13 rfl m318 (cread_32 _ _ _ _ _ _ _ _ _ _ _ _ ⟨by omega, by omega, by omega⟩ (by omega) (by omega)) fun Az w395 Hz m396 => ?_)
  refine gz hK39 Hz (.move rfl <| .extract rfl rfl <| .extract rfl rfl <| .assign rfl <| .assign rfl <| .nil) fun Az Hz => ?_
  replace Hz := Hz.oz [5, 6, 9, 11, 18]
  refine zsr fun K40 hK40 => ?_
  refine goCh Hz (.loadBR m396 (i := 25) rfl rfl U36 rfl fct4 (by simp) (by dsimp only [List.drop, List.take] <;> rfl) <| .fa 5 rfl U36 <| .lb m396 25 U2 rfl rfl rfl <| .sub rfl rfl (r := min y.fl (y.ws.length : Int) - 1) (IntWalk.i64_in _ (by omega)) .nil) fun Az Hz => ?_
  refine plz (ecb Hz Try.func13 rfl m396 (cread_30 _ _ _ _ _ _ _ _ _ _ _ _ ⟨by omega, by omega, by omega⟩ (by omega)) fun Az w412 Hz m413 => ?_)
  refine gz hK40 Hz (.move rfl <| .extract rfl rfl <| .extract rfl rfl <| .assign rfl <| .assign rfl <| .nil) fun Az Hz => ?_
  replace Hz := Hz.oz [5, 6, 9, 11, 18, 20]
  refine zsr fun K41 hK41 => ?_
  refine goCh Hz (.move rfl <| .eql rfl rfl <| .move rfl .nil) fun Az Hz => ?_
  refine bc Hz 145 ?_ ?_
  rotate_left
  · intro hb _; exact absurd hb (by simp)
  clear Hz; intro _ Hz
  refine gz hK41 Hz (.moveZ rfl <| .eqlZ rfl rfl <| .pickT rfl rfl <| .assign rfl <| .nil) fun Az Hz => ?_
  refine rt1 Hz ?_
  exact ⟨by (first | rfl | simp), m413.below⟩
 refine e_alloc Hz m43 66 fct6 rfl fun g432 Az w433 Hz m433 _ _ => ?_
 refine ⟨fun _ => (m433.to ⟨il, il, il, il, il, il, trivial⟩), ?_⟩
 refine so 1 ?_
 refine ecl Hz Try.func8 rfl (gnew_x _ y k fn cnt 0 hC hF _ _ _ _ _ _ _ (m433.into [] (by decide) rfl)) ?_
 rintro e w434 ⟨p434, c434, rfl, hm434⟩
 have mx434 := m433.back hm434 [(67, 9)] (by decide); clear hm434 m433
 have m434 := mx434.oz [67, 60, 61, 62, 63, 64, 65, 66]
 refine ⟨_, rfl, ?_⟩; intro Az Hz
 refine ⟨m434.to ⟨il, il, il, il, il, il, trivial⟩, ?_⟩
 have m436 := m434.freezeR 67 rfl
 refine so 3 ?_
 refine ecl Hz Try.func10 rfl (gapply_x _ y k fn cnt 0 hC hF _ _ _ _ _ _ _ rfl (by omega) (Nat.zero_le _) (m436.into [(1, 67), (2, 64)] (by decide) rfl)) ?_
 rintro e w437 ⟨p437, c437, rfl, hm437⟩
 have mx437 := m436.back hm437 [(67, 1), (64, 2), (68, 9)] (by decide); clear hm437 m436
 have m437 := mx437.oz [67, 64, 68, 60, 61, 62, 63, 65, 66]
 refine ⟨_, rfl, ?_⟩; intro Az Hz
 refine ⟨m437.to ⟨il, il, il, il, il, il, trivial⟩, ?_⟩
 refine se 5 ?_
 refine stw Hz m437 66 fct4 fun w439 m439 _ => ?_
 refine wpAnyE_done (by kernel_rfl) ?_ _
 refine hK5 _ _ ?_
 refine wsk fun K42 hK42 => ?_
 refine regS Hz (.assign rfl .nil) fun Az Hz => ?_
 refine wp_block ?_
 have m441 := m439.freezeR 68 rfl
 refine wp_loop_ghost (fun g a w => ∃ (i m B5 B7 B9 : Nat) (p1 p2 p3 : Option Addr) (d1 d2 d3 : Nat) (pc : Option Addr) (cc : Nat) (a1 a2 a3 a4 a5 a6 a7 : Int) (pq : Option Addr) (nq cq : Nat), i ≤ 20 ∧ m = min (4 * (i + 1)) y.ws.length ∧ g = 30 - i ∧ Has 149 [(5, .pointer (some ⟨B5, 0, none⟩)), (6, .int .i64 (k : Int)), (9, .pointer (some ⟨B9, 0, none⟩)), (7, .pointer (some ⟨B7, 0, none⟩)), (10, .int .i64 (i : Int))] a ∧ MemOk (cn w0) w0 [(20, .box B5 28 [.int .i64 y.vo, .int .i64 y.bl, .int .i64 y.sz, .int .i64 y.pe, .slice p1 y.place.length d1, .int .i64 y.to, .int .i64 y.ne, .bool y.hi, .int .i64 y.fl, .slice p2 y.pins.length d2, .slice p3 (y.ws.map wrD).length d3]), (21, .dat (.slice p1 y.place.length d1) (.ns .i64 y.place)), (22, .dat (.slice p2 y.pins.length d2) (.ns .i64 y.pins)), (23, .dat (.slice p3 (y.ws.map wrD).length d3) (.l 2 (y.ws.map wrD))), (25, .box B9 36 [.int .i64 y.vo, .int .i64 (k : Int), .int .i64 (cnt : Int), .int .i64 y.sz, .int .i64 (m : Nat), .int .i64 (min y.fl (m : Nat)), .slice pc cnt cc]), (26, .dat (.slice pc cnt cc) (.l 1 ((chN y fn cnt m).map hD))), (27, .box B7 31 [.int .i64 a1, .int .i64 a2, .int .i64 a3, .int .i64 a4, .int .i64 a5, .int .i64 a6, .int .i64 a7, .slice pq nq cq])] w) (30) ?_ ?_
 · exact ⟨0, tqN y 0, _, _, _, _, _, _, _, _, _, _, _, _, _, _, _, _, _, _, _, _, _, by omega, by unfold tqN; omega, rfl, Hz.only [5, 6, 9, 7, 10], m441.ren [(20, 63), (21, 60), (22, 61), (23, 62), (25, 66), (26, 68), (27, 65)] (by decide)⟩
 clear Hz m441
 rintro g Az w442 ⟨i, m, B5, B7, B9, p1, p2, p3, d1, d2, d3, pc, cc, a1, a2, a3, a4, a5, a6, a7, pq, nq, cq, hi20, hm9, hg, Hz, m442⟩
 refine wsk fun K43 hK43 => ?_
 refine wsk fun K44 hK44 => ?_
 have m443 := m442.oz [20, 21, 22, 23, 25, 26, 27]
 refine region_p 9 (B := [(20, _), (21, _), (22, _), (23, _), (25, _), (26, _), (27, _)]) (m443.to ⟨il, il, il, il, il, il, il, trivial⟩) m443 (by kernel_rfl) (fun w444 hP444 m444 => ?_); clear m443
 refine goA hP444 [0, 1, 2] 3 0 7 Hz (m444.to ⟨il, il, il, il, il, il, il, trivial⟩) (.move rfl <| .lss rfl rfl <| .move rfl .nil) fun Az Hz => ?_
 refine bc Hz 46 ?_ ?_
 rotate_left
 · intro hb _; exact absurd hb (by simp; omega)
 clear Hz; intro _ Hz
 refine goR hP444 [3, 4, 5] [4, 5] 3 7 63 Hz (m444.to ⟨il, il, il, il, il, il, il, trivial⟩) (.fa 4 rfl U36 <| .lb hh 25 U2 rfl rfl rfl <| .loadBR hh (i := 20) rfl rfl U28 rfl fct17 (by simp) (by dsimp only [List.drop, List.take] <;> rfl) .nil) fun Az Hz => ?_
 refine stepE_only 6 rfl (by kernel_rfl) (wantedG Hz rfl rfl rfl rfl) (fun K hK => ?_)
 refine e_call Hz Try.func9 rfl rfl rfl rfl (rlen_y y _ _ _ _ _ _ _ _ _) ?_
 rintro e w452 ⟨rfl, hb452⟩
 have m453 := m444.later hb452
 refine ⟨_, rfl, ?_⟩; intro Az Hz
 refine hK _ _ (m453.to ⟨il, il, il, il, il, il, il, trivial⟩) ?_; clear hK K
 refine goA hP444 [7, 8] 2 127 511 Hz (m453.to ⟨il, il, il, il, il, il, il, trivial⟩) (.lss rfl rfl <| .pickT rfl rfl .nil) fun Az Hz => ?_
 refine wpAnyE_done (by kernel_rfl) ?_ _
 refine hK44 _ _ ?_
 refine bc Hz 52 ?_ ?_
 ·
  intro hb457 Hz; try simp only [QQ, Qax] at hb457
  have hmn : m < y.ws.length := by have := hb457; first | omega | (simp at this; omega)
  refine wct Hz ?_
  refine zss (hK43 _ _ ?_)
  refine wsk fun K45 hK45 => ?_
  refine wp_block ?_
  replace Hz := Hz.oz [5, 6, 9, 7, 10]
  refine zsr fun K46 hK46 => ?_
  refine goCh Hz (.loadBR m453 (i := 20) rfl rfl U28 rfl fct17 (by simp) (by dsimp only [List.drop, List.take] <;> rfl) <| .move rfl <| .fa 4 rfl U36 <| .lb m453 25 U2 rfl rfl rfl .nil) fun Az Hz => ?_
  refine plz (ecl Hz Try.func7 rfl (gpush_x _ y k fn cnt m hC hF hwo _ _ _ _ _ _ _ _ _ rfl (by omega) (m453.into [(3, 23)] (by decide) rfl)) ?_)
  rintro e w467 ⟨p467, c467, rfl, hm467⟩
  have mx467 := m453.back hm467 [(23, 3), (100, 9)] (by decide); clear hm467 m453
  have m467 := mx467.oz [23, 100, 20, 21, 22, 25, 26, 27]
  refine ⟨_, rfl, ?_⟩; intro Az Hz
  refine goCh Hz (.move rfl <| .extract rfl rfl <| .extract rfl rfl .nil) fun Az Hz => ?_
  refine plz (stw Hz m467 27 fct3 fun w472 m472 _ => ?_)
  refine znl (hK46 _ _ ?_)
  replace Hz := Hz.oz [5, 6, 9, 7, 10]
  refine wp_region_lit ?_
  refine goCh Hz (.loadBR m472 (i := 25) rfl rfl U36 rfl fct4 (by simp) (by dsimp only [List.drop, List.take] <;> rfl) <| .loadBR m472 (i := 27) rfl rfl U31 rfl fct3 (by simp) (by dsimp only [List.drop, List.take] <;> rfl) .nil) fun Az Hz => ?_
  refine plz (ecl Hz Try.func10 rfl (gapply_x _ y k fn cnt m hC hF _ _ _ _ _ _ _ rfl rfl (by omega) (m472.into [(1, 26), (2, 100)] (by decide) rfl)) ?_)
  rintro e w476 ⟨p476, c476, rfl, hm476⟩
  have mx476 := m472.back hm476 [(26, 1), (100, 2), (101, 9)] (by decide); clear hm476 m472
  have m476 := mx476.oz [26, 100, 101, 20, 21, 22, 23, 25, 27]
  refine ⟨_, rfl, ?_⟩; intro Az Hz
  refine plz (stw Hz m476 25 fct4 fun w478 m478 _ => ?_)
  refine znl (hK45 _ _ ?_)
  refine wp_region_lit ?_
  refine goCh Hz (.move rfl <| .inc (i + 1) <| .assign rfl .nil) fun Az Hz => ?_
  refine wpList_nil ?_
  show ∃ n', n' < _ ∧ _
  have m482 := m478.freezeR 101 rfl
  exact ⟨30 - (i + 1), by omega, i + 1, tqN y m, _, _, _, _, _, _, _, _, _, _, _, _, _, _, _, _, _, _, _, _, _, by omega, by unfold tqN; omega, rfl, Hz.only [5, 6, 9, 7, 10], m482.ren [(20, 20), (21, 21), (22, 22), (23, 23), (25, 25), (26, 101), (27, 27)] (by decide)⟩
 intro hb457 Hz; try simp only [QQ, Qax] at hb457
 have hmn : ¬ m < y.ws.length := by have := hb457; first | omega | (simp at this; omega)
 revert Hz
 obtain rfl : m = y.ws.length := by omega
 intro Hz
 clear hm9 hi20
 refine wcf Hz ?_
 refine wp_exit ?_
 refine hK42 _ _ ?_
 refine wsk fun K47 hK47 => ?_
 refine wsk fun K48 hK48 => ?_
 replace Hz := Hz.oz [5, 6, 9, 7, 10]
 have m484 := m453.oz [20, 21, 22, 23, 25, 26, 27]
 refine region_p 17 (B := [(20, _), (21, _), (22, _), (23, _), (25, _), (26, _), (27, _)]) (m484.to ⟨il, il, il, il, il, il, il, trivial⟩) m484 (by kernel_rfl) (fun w485 hP485 m485 => ?_); clear m484
 refine goR hP485 [0, 1, 2] [1, 2] 3 0 7 Hz (m485.to ⟨il, il, il, il, il, il, il, trivial⟩) (.fa 4 rfl U36 <| .lb hh 25 U2 rfl rfl rfl <| .loadBR hh (i := 20) rfl rfl U28 rfl fct17 (by simp) (by dsimp only [List.drop, List.take] <;> rfl) .nil) fun Az Hz => ?_
 refine so 3 ?_
 refine ecb Hz Try.func9 rfl m485 (rlen_y y _ _ _ _ _ _ _ _ _) fun Az w489 Hz m490 => ?_
 refine ⟨m490.to ⟨il, il, il, il, il, il, il, trivial⟩, ?_⟩
 refine goA hP485 [4, 5] 2 15 63 Hz (m490.to ⟨il, il, il, il, il, il, il, trivial⟩) (.neq rfl rfl <| .move rfl .nil) fun Az Hz => ?_
 refine bc Hz 71 ?_ ?_
 · intro hb _; exact absurd hb (by first | (simp; done) | (simp; omega))
 clear Hz; intro _ Hz
 refine goR hP485 [6, 7, 8, 9, 10, 11, 12] [7, 9] 7 63 8191 Hz (m490.to ⟨il, il, il, il, il, il, il, trivial⟩) (.fa 5 rfl U36 <| .lb hh 25 U2 rfl rfl rfl <| .fa 8 rfl U28 <| .lb hh 20 U2 rfl rfl rfl <| .neq rfl rfl <| .pickF rfl rfl <| .move rfl .nil) fun Az Hz => ?_
 refine bc Hz 78 ?_ ?_
 · intro hb _; exact absurd hb (by first | (simp; done) | (simp; omega))
 clear Hz; intro _ Hz
 refine goR hP485 [13] [13] 1 8191 16383 Hz (m490.to ⟨il, il, il, il, il, il, il, trivial⟩) (.loadBR hh (i := 25) rfl rfl U36 rfl fct4 (by simp) (by dsimp only [List.drop, List.take] <;> rfl) .nil) fun Az Hz => ?_
 refine stepE_only 14 rfl (by kernel_rfl) (wantedG Hz rfl rfl rfl rfl) (fun K hK => ?_)
 refine e_call Hz Try.func11 rfl rfl rfl rfl (gright_x _ y k fn cnt _ hC hF _ _ _ _ rfl (Nat.le_refl _) (m490.into [(1, 26)] (by decide) rfl)) ?_
 rintro e w504 ⟨rfl, hm504⟩
 have mx504 := m490.back hm504 [(26, 1)] (by decide); clear hm504 m490
 have m504 := mx504.oz [26, 20, 21, 22, 23, 25, 27]
 refine ⟨_, rfl, ?_⟩; intro Az Hz
 refine hK _ _ (m504.to ⟨il, il, il, il, il, il, il, trivial⟩) ?_; clear hK K
 refine goA hP485 [15, 16] 2 32767 131071 Hz (m504.to ⟨il, il, il, il, il, il, il, trivial⟩) (.not rfl <| .pickF rfl rfl .nil) fun Az Hz => ?_
 refine wpAnyE_done (by kernel_rfl) ?_ _
 refine hK48 _ _ ?_
 refine wcf Hz ?_
 refine zss (hK47 _ _ ?_)
 refine wsk fun K49 hK49 => ?_
 replace Hz := Hz.oz [5, 6, 9, 7, 10]
 refine regS Hz (.fa 8 rfl U28 <| .lb m504 20 U2 rfl rfl rfl <| .assign rfl .nil) fun Az Hz => ?_
 refine wp_block ?_
 refine wp_loop_ghost (fun g a w => ∃ (t : Int) (B5 B9 : Nat) (p1 p2 p3 : Option Addr) (d1 d2 d3 : Nat) (pc : Option Addr) (cc : Nat), y.fl ≤ t ∧ t ≤ (y.ws.length : Int) + 1 ∧ g = ((y.ws.length : Int) + 1 - t).toNat ∧ Has 149 [(5, .pointer (some ⟨B5, 0, none⟩)), (6, .int .i64 (k : Int)), (9, .pointer (some ⟨B9, 0, none⟩)), (11, .int .i64 t)] a ∧ MemOk (cn w0) w0 [(20, .box B5 28 [.int .i64 y.vo, .int .i64 y.bl, .int .i64 y.sz, .int .i64 y.pe, .slice p1 y.place.length d1, .int .i64 y.to, .int .i64 y.ne, .bool y.hi, .int .i64 y.fl, .slice p2 y.pins.length d2, .slice p3 (y.ws.map wrD).length d3]), (21, .dat (.slice p1 y.place.length d1) (.ns .i64 y.place)), (22, .dat (.slice p2 y.pins.length d2) (.ns .i64 y.pins)), (23, .dat (.slice p3 (y.ws.map wrD).length d3) (.l 2 (y.ws.map wrD))), (25, .box B9 36 [.int .i64 y.vo, .int .i64 (k : Int), .int .i64 (cnt : Int), .int .i64 y.sz, .int .i64 (y.ws.length : Nat), .int .i64 (min y.fl (y.ws.length : Nat)), .slice pc cnt cc]), (26, .dat (.slice pc cnt cc) (.l 1 ((chN y fn cnt y.ws.length).map hD)))] w) (((y.ws.length : Int) + 1 - y.fl).toNat) ?_ ?_
 · exact ⟨y.fl, _, _, _, _, _, _, _, _, _, _, Int.le_refl _, by omega, rfl, Hz.only [5, 6, 9, 11], m504.ren [(20, 20), (21, 21), (22, 22), (23, 23), (25, 25), (26, 26)] (by decide)⟩
 clear Hz m504
 rintro g Az w512 ⟨t, B5, B9, p1, p2, p3, d1, d2, d3, pc, cc, ht0, ht1, hg, Hz, m512⟩
 refine wsk fun K50 hK50 => ?_
 refine regS Hz (.move rfl <| .fa 4 rfl U36 <| .lb m512 25 U2 rfl rfl rfl <| .leq rfl rfl .nil) fun Az Hz => ?_
 refine bc Hz 88 ?_ ?_
 ·
  intro hb517 Hz; try simp only [QQ, Qax] at hb517
  have htw : t ≤ (y.ws.length : Int) := by have := hb517; first | omega | (simp at this; omega)
  obtain ⟨tn, htn⟩ : ∃ tn : Nat, t = (tn : Int) := ⟨t.toNat, by omega⟩
  refine wct Hz ?_
  refine zss (hK50 _ _ ?_)
  refine wsk fun K51 hK51 => ?_
  refine wp_block ?_
  refine zsr fun K52 hK52 => ?_
  refine goCh Hz (.loadBR m512 (i := 20) rfl rfl U28 rfl fct17 (by simp) (by dsimp only [List.drop, List.take] <;> rfl) <| .move rfl .nil) fun Az Hz => ?_
  refine plz (ecl Hz Try.func12 rfl (rstate_q _ y hF hwo _ _ _ _ _ _ _ _ _ tn htn _ (fun b hb => (List.not_mem_nil (a := b)) hb) (by omega) (by omega) (m512.into [(3, 23)] (by decide) rfl)) ?_)
  rintro e w522 ⟨p522, c522, rfl, hm522⟩
  have mx522 := m512.back hm522 [(23, 3), (200, 9)] (by decide); clear hm522 m512
  have m522 := mx522.oz [23, 200, 20, 21, 22, 25, 26]
  refine ⟨_, rfl, ?_⟩; intro Az Hz
  obtain ⟨S, hS9⟩ : ∃ S, stL y.bl y.sz y.ws tn = S := ⟨_, rfl⟩
  have hSl : S.length = y.bl.toNat := by rw [← hS9, stL_len]
  rw [hS9] at m522 Hz
  refine gz hK52 Hz (.move rfl <| .extract rfl rfl <| .extract rfl rfl <| .assign rfl <| .assign rfl <| .nil) fun Az Hz => ?_
  replace Hz := Hz.oz [5, 6, 9, 11, 12]
  refine regS Hz (.assign rfl .nil) fun Az Hz => ?_
  refine wp_block ?_
  refine wp_loop_ghost (fun g a w => ∃ (b B5 B9 : Nat) (p1 p2 p3 : Option Addr) (d1 d2 d3 : Nat) (pc : Option Addr) (cc : Nat) (ps : Option Addr) (cs : Nat), b ≤ cnt ∧ g = cnt - b ∧ Has 149 [(5, .pointer (some ⟨B5, 0, none⟩)), (6, .int .i64 (k : Int)), (9, .pointer (some ⟨B9, 0, none⟩)), (11, .int .i64 t), (12, .slice ps (S.map bD).length cs), (14, .int .i64 (b : Int))] a ∧ MemOk (cn w0) w0 [(20, .box B5 28 [.int .i64 y.vo, .int .i64 y.bl, .int .i64 y.sz, .int .i64 y.pe, .slice p1 y.place.length d1, .int .i64 y.to, .int .i64 y.ne, .bool y.hi, .int .i64 y.fl, .slice p2 y.pins.length d2, .slice p3 (y.ws.map wrD).length d3]), (21, .dat (.slice p1 y.place.length d1) (.ns .i64 y.place)), (22, .dat (.slice p2 y.pins.length d2) (.ns .i64 y.pins)), (23, .dat (.slice p3 (y.ws.map wrD).length d3) (.l 2 (y.ws.map wrD))), (25, .box B9 36 [.int .i64 y.vo, .int .i64 (k : Int), .int .i64 (cnt : Int), .int .i64 y.sz, .int .i64 (y.ws.length : Nat), .int .i64 (min y.fl (y.ws.length : Nat)), .slice pc cnt cc]), (26, .dat (.slice pc cnt cc) (.l 1 ((chN y fn cnt y.ws.length).map hD))), (28, .dat (.slice ps (S.map bD).length cs) (.l 1 (S.map bD)))] w) (cnt) ?_ ?_
  · exact ⟨0, _, _, _, _, _, _, _, _, _, _, _, _, Nat.zero_le _, rfl, Hz.only [5, 6, 9, 11, 12, 14], m522.ren [(20, 20), (21, 21), (22, 22), (23, 23), (25, 25), (26, 26), (28, 200)] (by decide)⟩
  clear Hz m522
  rintro g Az w531 ⟨b, B5, B9, p1, p2, p3, d1, d2, d3, pc, cc, ps, cs, hbl, hg2, Hz, m531⟩
  refine wsk fun K53 hK53 => ?_
  refine regS Hz (.move rfl <| .fa 2 rfl U36 <| .lb m531 25 U3 rfl rfl rfl <| .lss rfl rfl .nil) fun Az Hz => ?_
  refine bc Hz 100 ?_ ?_
  ·
   intro hb536 Hz; try simp only [QQ, Qax] at hb536
   have hbc : b < cnt := by have := hb536; first | omega | (simp at this; omega)
   refine wct Hz ?_
   refine zss (hK53 _ _ ?_)
   refine wsk fun K54 hK54 => ?_
   refine wp_block ?_
   refine zsr fun K55 hK55 => ?_
   refine goCh Hz (.loadBR m531 (i := 25) rfl rfl U36 rfl fct4 (by simp) (by dsimp only [List.drop, List.take] <;> rfl) <| .move rfl <| .move rfl .nil) fun Az Hz => ?_
   refine plz (ecl Hz Try.func13 rfl (gread_y _ y k fn cnt hC hF _ b tn _ _ _ _ S hS9 htn (by omega) hbc (by omega) (by omega) (m531.into [(1, 26)] (by decide) rfl)) ?_)
   rintro e w543 ⟨p543, c543, rfl, hm543⟩
   have mx543 := m531.back hm543 [(26, 1), (300, 9)] (by decide); clear hm543 m531
   have m543 := mx543.oz [26, 300, 20, 21, 22, 23, 25, 28]
   refine ⟨_, rfl, ?_⟩; intro Az Hz
   refine gz hK55 Hz (.move rfl <| .extract rfl rfl <| .extract rfl rfl <| .assign rfl <| .assign rfl <| .nil) fun Az Hz => ?_
   refine wsk fun K56 hK56 => ?_
   replace Hz := Hz.oz [5, 6, 9, 11, 12, 14, 15, 16]
   obtain ⟨b551, o551, vs551, hp551, hR551, ho551, m551⟩ := m543.openR (i := 28) rfl ((fn + b)) (r := [.ns .u8 (S.getD (fn + b) [])]) (bD_get (by omega)) 301 rfl
   revert Hz
   cases hp551; clear m543 ho551
   rcases hR551 with _ | ⟨hd551_0, _ | _⟩
   obtain ⟨p552, c552, hv552, hc552⟩ := hd551_0.ns_shape; subst hv552
   intro Hz
   have m552 := m551.dat 302 rfl (hd551_0.cast (fun _ h => (free_add rfl h))); clear m551 hd551_0
   have m553 := m552.oz [20, 21, 22, 23, 25, 26, 28, 300, 301, 302]
   refine region_p 17 (B := [(20, _), (21, _), (22, _), (23, _), (25, _), (26, _), (28, _), (300, _), (301, _), (302, _)]) (m553.to ⟨il, il, il, il, il, il, il, il, il, il, trivial⟩) m553 (by kernel_rfl) (fun w554 hP554 m554 => ?_); clear m553
   refine goA hP554 [0, 1, 2] 3 0 7 Hz (m554.to ⟨il, il, il, il, il, il, il, il, il, il, trivial⟩) (.move rfl <| .neq rfl rfl <| .move rfl .nil) fun Az Hz => ?_
   refine bc Hz 112 ?_ ?_
   · intro hb _; exact absurd hb (by first | (simp; done) | (simp; omega))
   clear Hz; intro _ Hz
   refine goR hP554 [3, 4, 5, 6, 7, 8, 9, 10, 11, 12, 13, 14, 15, 16] [4, 8, 13, 14] 14 7 131071 Hz (m554.to ⟨il, il, il, il, il, il, il, il, il, il, trivial⟩) (.move rfl <| .str rfl (fun _ h_ => (h_.nums (i := 300) rfl)) U22 U5 U9 <| .move rfl <| .move rfl <| .fa 3 rfl U28 <| .lb hh 20 U3 rfl rfl rfl <| .mul rfl rfl (r := (fn : Int)) (by rw [← hC.fe]; exact IntWalk.i64_in _ (by omega)) <| .move rfl <| .add rfl rfl (r := ((fn + b : Nat) : Int)) (by rw [IntWalk.i64_in _ (by omega)]; omega) <| .p (fun _ _ h_ => y_idx h_ rfl rfl U41 fct16 ((fn + b)) rfl (by rw [List.length_map]; omega)) <| .loadC0 hh (i := 301) rfl rfl U22 rfl <| .str rfl (fun _ h_ => (h_.nums (i := 302) rfl)) U22 U5 U9 <| .neqS rfl rfl <| .pickF rfl rfl .nil) fun Az Hz => ?_
   refine wpAnyE_done (by kernel_rfl) ?_ _
   refine hK56 _ _ ?_
   refine bc Hz 126 ?_ ?_
   · intro hb _; exact absurd hb (by first | (simp; done) | (simp; omega))
   clear Hz; intro _ Hz
   refine wcf Hz ?_
   refine zss (hK54 _ _ ?_)
   replace Hz := Hz.oz [5, 6, 9, 11, 12, 14]
   refine wp_region_lit ?_
   refine goCh Hz (.move rfl <| .inc (b + 1) <| .assign rfl .nil) fun Az Hz => ?_
   refine wpList_nil ?_
   show ∃ n', n' < _ ∧ _
   exact ⟨cnt - (b + 1), by omega, b + 1, _, _, _, _, _, _, _, _, _, _, _, _, by omega, rfl, Hz.only [5, 6, 9, 11, 12, 14], m554.ren [(20, 20), (21, 21), (22, 22), (23, 23), (25, 25), (26, 26), (28, 28)] (by decide)⟩
  intro hb536 Hz; try simp only [QQ, Qax] at hb536
  refine wcf Hz ?_
  refine wp_exit ?_
  refine hK51 _ _ ?_
  refine wp_region_lit ?_
  refine goCh Hz (.move rfl <| .add rfl rfl (r := t + 1) (IntWalk.i64_in _ (by omega)) <| .assign rfl .nil) fun Az Hz => ?_
  refine wpList_nil ?_
  show ∃ n', n' < _ ∧ _
  exact ⟨((y.ws.length : Int) + 1 - (t + 1)).toNat, by omega, t + 1, _, _, _, _, _, _, _, _, _, _, by omega, by omega, rfl, Hz.only [5, 6, 9, 11], m531.ren [(20, 20), (21, 21), (22, 22), (23, 23), (25, 25), (26, 26)] (by decide)⟩
 intro hb517 Hz; try simp only [QQ, Qax] at hb517
 refine wcf Hz ?_
 refine wp_exit ?_
 refine hK49 _ _ ?_
 refine zsr fun K57 hK57 => ?_
 refine goCh Hz (.loadBR m512 (i := 25) rfl rfl U36 rfl fct4 (by simp) (by dsimp only [List.drop, List.take] <;> rfl) <| .fa 4 rfl U36 <| .lb m512 25 U2 rfl rfl rfl <| .add rfl rfl (r := (y.ws.length : Int) + 1) (IntWalk.i64_in _ (by omega)) .nil) fun Az Hz => ?_
 refine plz (ecb Hz Try.func13 rfl m512 (cread_32 _ _ _ _ _ _ _ _ _ _ _ _ ⟨by omega, by omega, by omega⟩ (by omega) (by omega)) fun Az w589 Hz m590 => ?_)
 refine gz hK57 Hz (.move rfl <| .extract rfl rfl <| .extract rfl rfl <| .assign rfl <| .assign rfl <| .nil) fun Az Hz => ?_
 replace Hz := Hz.oz [5, 6, 9, 11, 18]
 refine zsr fun K58 hK58 => ?_
 refine goCh Hz (.loadBR m590 (i := 25) rfl rfl U36 rfl fct4 (by simp) (by dsimp only [List.drop, List.take] <;> rfl) <| .fa 5 rfl U36 <| .lb m590 25 U2 rfl rfl rfl <| .sub rfl rfl (r := min y.fl (y.ws.length : Int) - 1) (IntWalk.i64_in _ (by omega)) .nil) fun Az Hz => ?_
 refine plz (ecb Hz Try.func13 rfl m590 (cread_30 _ _ _ _ _ _ _ _ _ _ _ _ ⟨by omega, by omega, by omega⟩ (by omega)) fun Az w606 Hz m607 => ?_)
 refine gz hK58 Hz (.move rfl <| .extract rfl rfl <| .extract rfl rfl <| .assign rfl <| .assign rfl <| .nil) fun Az Hz => ?_
 replace Hz := Hz.oz [5, 6, 9, 11, 18, 20]
 refine zsr fun K59 hK59 => ?_
 refine goCh Hz (.move rfl <| .eql rfl rfl <| .move rfl .nil) fun Az Hz => ?_
 refine bc Hz 145 ?_ ?_
 rotate_left
 · intro hb _; exact absurd hb (by simp)
 clear Hz; intro _ Hz
 refine gz hK59 Hz (.moveZ rfl <| .eqlZ rfl rfl <| .pickT rfl rfl <| .assign rfl <| .nil) fun Az Hz => ?_
 refine rt1 Hz ?_
 exact ⟨by (first | rfl | simp), m607.below⟩
end Go.Proofs.Yteglmahnkfgelaa.K
