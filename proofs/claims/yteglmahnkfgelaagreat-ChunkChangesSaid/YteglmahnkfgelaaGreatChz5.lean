/- ChunkChanges' walk. -/
import Derived.Test.YteglmahnkfgelaaGreatChz4
import Derived.Test.YteglmahnkfgelaaGreatChuR
namespace Go.Proofs.YteglmahnkfgelaaGreat.K
open Go.ChangeShapes Go.WideShapes Go.ChangeAt Go.RowKit
set_option linter.unusedVariables false
set_option linter.unusedSimpArgs false
def rdF (y : VolV) (fn cnt m i : Nat) (t : Int) : List Int := (atF ((chN y fn cnt m).getD i []) t).getD (List.replicate y.sz.toNat 0)
theorem rd_same {y : VolV} {fn cnt m i : Nat} (hF : VolF y) (hmn : m ≤ y.ws.length) {a b : Int} (hab : a ≤ b) (hi : i < cnt) (hc : chgF ((chN y fn cnt m).getD i []) a b = false) : rdF y fn cnt m i a = rdF y fn cnt m i b := by
 have hr : Rise ((chN y fn cnt m).getD i []) := by
   have hl : i < (chN y fn cnt m).length := by rw [chN_len]; exact hi
   rw [List.getD, List.getElem?_eq_getElem hl]
   exact chu_rise hF.wr _ (List.getElem_mem hl)
 unfold rdF
 rw [chg_no hr hab hc]
theorem told_snoc {L : List Int} {j : Nat} {x : Int} (hj : j < L.length) : decide (x ∈ L.take (j + 1)) = (decide (x ∈ L.take j) || decide (L.getD j 0 = x)) := by
 rw [take_snoc (List.getElem?_eq_getElem hj), List.getD, List.getElem?_eq_getElem hj]
 rw [← Bool.decide_or]
 refine decide_eq_decide.2 ?_
 rw [List.mem_append, List.mem_singleton]
 exact or_congr Iff.rfl eq_comm
theorem rng_at {f m x : Int} (hf : f ≤ m) (hx : 0 ≤ x) : ∃ r : Int, r = f + x.tmod (m - f + 1) ∧ f ≤ r ∧ r ≤ m := by
 rw [Int.tmod_eq_emod_of_nonneg hx]
 have h1 := Int.emod_nonneg x (show m - f + 1 ≠ 0 by omega)
 have h2 := Int.emod_lt_of_pos x (show 0 < m - f + 1 by omega)
 exact ⟨_, rfl, by omega, by omega⟩
set_option maxRecDepth 100000
set_option maxHeartbeats 4000000
theorem gread_c (X : Cx) (y : VolV) (k fn cnt m : Nat) (hC : CkOk y k fn cnt) (hF : VolF y) (hmn : m ≤ y.ws.length) (fi : Int) (i : Nat) (tv : Int) (p : Option Addr) (c : Nat) (w0 : World) (hfi : fi = min y.fl (m : Int)) (hi : i < cnt) (hft : min y.fl (m : Int) ≤ tv) (ht : tv ≤ m) (m0 : MemOk X w0 [(1, .dat (.slice p cnt c) (.l 1 ((chN y fn cnt m).map hD)))] w0) :
   Calls Tryz.prog 33 #[.agg #[.int .i64 y.vo, .int .i64 (k : Int), .int .i64 (cnt : Int), .int .i64 y.sz, .int .i64 (m : Int), .int .i64 fi, .slice p cnt c], .int .i64 (i : Int), .int .i64 tv] w0 fun e w' => ∃ (p9 : Option Addr) (c9 : Nat), e = .returned (.tuple #[.slice p9 (rdF y fn cnt m i tv).length c9, .int .i64 0]) ∧ MemOk X w0 [(1, .dat (.slice p cnt c) (.l 1 ((chN y fn cnt m).map hD))), (9, .dat (.slice p9 (rdF y fn cnt m i tv).length c9) (.ns .u8 (rdF y fn cnt m i tv)))] w' := by
 subst hfi
 have hl := hF.wl
 have hcl := chN_len y fn cnt m
 have hHB : HB 900000 (chN y fn cnt m) := chu_hb hF.wr hF.sz.2 (by omega)
 have hc2 := hC.c256
 unfold rdF
 rcases hA : atF ((chN y fn cnt m).getD i []) tv with _ | d
 · have h := cread_none X y.vo (k : Int) (cnt : Int) y.sz (m : Int) (min y.fl (m : Int)) (chN y fn cnt m) i tv p c w0 (by omega) hHB.ok (chu_rise hF.wr) (by omega) (by omega) ⟨by have := hF.sz; omega, hF.sz.2⟩ hft ht hA (by rw [hcl]; exact m0)
   rw [hcl, hA] at h
   exact h
 have h := cread_some X y.vo (k : Int) (cnt : Int) y.sz (m : Int) (min y.fl (m : Int)) (chN y fn cnt m) i tv p c w0 (by omega) hHB.ok (chu_rise hF.wr) (by omega) (by omega) ⟨by have := hF.sz; omega, hF.sz.2⟩ hft ht hA (by rw [hcl]; exact m0)
 rw [hcl, hA] at h
 exact h
theorem gchanged_c (X : Cx) (y : VolV) (k fn cnt m : Nat) (hC : CkOk y k fn cnt) (hF : VolF y) (hmn : m ≤ y.ws.length) (fi a9 b9 : Int) (p : Option Addr) (c : Nat) (w0 : World) (m0 : MemOk X w0 [(1, .dat (.slice p cnt c) (.l 1 ((chN y fn cnt m).map hD)))] w0) :
   Calls Tryz.prog 32 #[.agg #[.int .i64 y.vo, .int .i64 (k : Int), .int .i64 (cnt : Int), .int .i64 y.sz, .int .i64 (m : Int), .int .i64 fi, .slice p cnt c], .int .i64 a9, .int .i64 b9] w0 fun e w' => ∃ (p9 : Option Addr) (c9 : Nat), e = .returned (.slice p9 (chgL (chN y fn cnt m) a9 b9 cnt).length c9) ∧ MemOk X w0 [(1, .dat (.slice p cnt c) (.l 1 ((chN y fn cnt m).map hD))), (9, .num (.slice p9 (chgL (chN y fn cnt m) a9 b9 cnt).length c9) 3 .i64 (chgL (chN y fn cnt m) a9 b9 cnt))] w' := by
 have hl := hF.wl
 have hcl := chN_len y fn cnt m
 have hHB : HB 900000 (chN y fn cnt m) := chu_hb hF.wr hF.sz.2 (by omega)
 have hc2 := hC.c256
 have h := cchanged_x X y.vo (k : Int) (cnt : Int) y.sz (m : Int) fi (chN y fn cnt m) a9 b9 p c w0 (by omega) (fun x hx => ⟨(hHB.at hx).2.1, (hHB.at hx).1⟩) (by rw [hcl]; exact m0)
 rw [hcl] at h
 exact h
theorem changes_walk (l : List Int) (pl : Option Addr) (cl n1 nf nt : Nat) (w0 : World) (hn : n1 ≤ 255) (hnf : nf ≤ 255) (hnt : nt ≤ 255) (h1 : Rd (fun _ => True) w0 (.slice pl l.length cl) (.ns .u8 l)) (hlb : ∀ j, j < l.length → 0 ≤ l.getD j 0 ∧ l.getD j 0 ≤ 255) :
   Calls Tryz.prog 5 #[.slice pl l.length cl, .int .u8 (n1 : Int), .int .u8 (nf : Int), .int .u8 (nt : Int)] w0 fun e w' => e = .returned (.bool true) ∧ Below w0.heap.size w0 w' := by
 refine ent4 Tryz.func5 rfl Tryz.ntmps5 fun Az Hz => ?_
 have m0 := MemOk.start (fun _ => False) w0
 refine regS Hz (.assign rfl .nil) fun Az Hz => ?_
 refine wsk fun K0 hK0 => ?_
 refine zsr fun K1 hK1 => ?_
 refine plz (ecb Hz Tryz.func7 rfl m0 (cknown_x _) fun Az w2 Hz m3 => ?_)
 refine gz hK1 Hz (.not rfl .nil) fun Az Hz => ?_
 refine wcf Hz ?_
 refine zss (hK0 _ _ ?_)
 refine wsk fun K2 hK2 => ?_
 refine regS Hz (.move rfl <| .len rfl U22 <| .gtr rfl rfl .nil) fun Az Hz => ?_
 refine bc Hz 26 ?_ ?_
 ·
  intro hb9 Hz; try simp only [QQ, Qax] at hb9
  refine wct Hz ?_
  refine regS Hz (.assign rfl .nil) fun Az Hz => ?_
  refine rt1 Hz ?_
  exact ⟨by (first | rfl | simp), m3.below⟩
 intro hb9 Hz; try simp only [QQ, Qax] at hb9
 have hl80 : l.length ≤ 80 := by have := hb9; first | omega | (simp at this; omega)
 refine wcf Hz ?_
 refine zss (hK2 _ _ ?_)
 refine zsr fun K3 hK3 => ?_
 refine goCh Hz (.move rfl .nil) fun Az Hz => ?_
 refine plz (ecl Hz Tryz.func31 rfl (svol_any l _ _ _ ((h1.now' m3 rfl).any) (by omega) hlb) ?_)
 rintro e w13 ⟨y, p113, p213, p313, d113, d213, d313, rfl, hS, hd13, he13, hf13, hb13⟩
 have m14 := m3.callF3 60 61 62 rfl rfl rfl hb13 hd13 he13 hf13
 clear hb13 hd13 he13 hf13
 have hF : VolF y := hS.f (by omega)
 have hwo : WrsOk y.ws := hS.1.its.1
 have hn80 : y.ws.length ≤ 80 := by have := hS.2.2.2.1; omega
 have hf0 := hF.fl0
 have hf1 := hF.fl1
 have hwl := hF.wl
 have hvb := hF.bl
 have hvp := hF.pe
 have hpl : 0 < y.place.length := place_pos hS
 have hpl2 : y.place.length ≤ 1000 := place_top hS
 obtain ⟨k, hk⟩ : ∃ k : Nat, n1 % y.place.length = k := ⟨_, rfl⟩
 have hkp : k < y.place.length := by rw [← hk]; exact Nat.mod_lt _ hpl
 obtain ⟨fn, cnt, hC⟩ := ck_ok hS hkp
 have hc1 := hC.pos
 have hc2 := hC.c256
 have hc3 := hC.fnb
 have hc4 := hC.top
 have hc5 := hC.k255
 have hc6 := hC.fe
 refine ⟨_, rfl, ?_⟩; intro Az Hz
 refine plz (e_alloc Hz m14 63 fct28 rfl fun g16 Az w17 Hz m17 _ _ => ?_)
 refine plz (stw Hz m17 63 fct24 fun w18 m18 _ => ?_)
 refine znl (hK3 _ _ ?_)
 replace Hz := Hz.oz [1, 2, 3, 8, 9]
 refine regS Hz (.move rfl <| .conv rfl U5 U3 (r := (n1 : Int)) (IntWalk.i64_in _ (by omega)) <| .fa 4 rfl U34 <| .lb m18 63 U31 rfl rfl rfl <| .len rfl U31 <| .rem rfl rfl (by omega) (r := (k : Int)) (by rw [tmodNN, hk]) <| .assign rfl .nil) fun Az Hz => ?_
 replace Hz := Hz.oz [2, 3, 8, 9, 10]
 refine zsr fun K4 hK4 => ?_
 refine goCh Hz (.loadBR m18 (i := 63) rfl rfl U34 rfl fct24 (by simp) (by dsimp only [List.drop, List.take] <;> rfl) <| .move rfl .nil) fun Az Hz => ?_
 refine plz (ecl Hz Tryz.func10 rfl (zchunk_x _ y k fn cnt hC hF hwo _ _ _ _ _ _ _ _ _ (m18.into [(3, 62)] (by decide) rfl)) ?_)
 rintro e w32 ⟨m, p32, c32, hmn, hfin, rfl, hm32⟩
 have mx32 := m18.back hm32 [(62, 3), (64, 9)] (by decide); clear hm32 m18
 have m32 := mx32.oz [62, 64, 60, 61, 63]
 refine ⟨_, rfl, ?_⟩; intro Az Hz
 refine plz (e_alloc Hz m32 65 fct6 rfl fun g34 Az w35 Hz m35 _ _ => ?_)
 refine plz (stw Hz m35 65 fct5 fun w36 m36 _ => ?_)
 refine znl (hK4 _ _ ?_)
 refine wsk fun K5 hK5 => ?_
 obtain ⟨a9, ha9, ha0, ha1⟩ := rng_at (f := min y.fl (m : Int)) (m := (m : Int)) (x := (nf : Int)) (by omega) (by omega)
 obtain ⟨b9, hb9, hb0, hb1⟩ := rng_at (f := a9) (m := (m : Int)) (x := (nt : Int)) (by omega) (by omega)
 have m37 := m36.oz [60, 61, 62, 63, 64, 65]
 refine region_p 13 (B := [(60, _), (61, _), (62, _), (63, _), (64, _), (65, _)]) (m37.to ⟨il, il, il, il, il, il, trivial⟩) m37 (by kernel_rfl) (fun w38 hP38 m38 => ?_); clear m37
 refine goR hP38 [0, 1, 2, 3, 4, 5, 6, 7, 8, 9, 10, 11, 12] [1, 5, 7] 13 0 8191 Hz (m38.to ⟨il, il, il, il, il, il, trivial⟩) (.fa 5 rfl U39 <| .lb hh 65 U2 rfl rfl rfl <| .move rfl <| .conv rfl U5 U2 (r := (nf : Int)) (IntWalk.i64_in _ (by omega)) <| .fa 4 rfl U39 <| .lb hh 65 U2 rfl rfl rfl <| .fa 5 rfl U39 <| .lb hh 65 U2 rfl rfl rfl <| .sub rfl rfl (r := (m : Int) - min y.fl (m : Int)) (IntWalk.i64_in _ (by omega)) <| .add rfl rfl (r := (m : Int) - min y.fl (m : Int) + 1) (IntWalk.i64_in _ (by omega)) <| .rem rfl rfl (by omega) rfl <| .add rfl rfl (r := a9) (by rw [ha9]; exact IntWalk.i64_in _ (by omega)) <| .assign rfl .nil) fun Az Hz => ?_
 refine wpAnyE_done (by kernel_rfl) ?_ _
 refine hK5 _ _ ?_
 replace Hz := Hz.oz [3, 8, 11, 12]
 refine regS Hz (.move rfl <| .move rfl <| .conv rfl U5 U2 (r := (nt : Int)) (IntWalk.i64_in _ (by omega)) <| .fa 4 rfl U39 <| .lb m38 65 U2 rfl rfl rfl <| .move rfl <| .sub rfl rfl (r := (m : Int) - a9) (IntWalk.i64_in _ (by omega)) <| .add rfl rfl (r := (m : Int) - a9 + 1) (IntWalk.i64_in _ (by omega)) <| .rem rfl rfl (by omega) rfl <| .add rfl rfl (r := b9) (by rw [hb9]; exact IntWalk.i64_in _ (by omega)) <| .assign rfl .nil) fun Az Hz => ?_
 replace Hz := Hz.oz [8, 11, 12, 13]
 refine zsr fun K6 hK6 => ?_
 refine goCh Hz (.loadBR m38 (i := 65) rfl rfl U39 rfl fct5 (by simp) (by dsimp only [List.drop, List.take] <;> rfl) <| .move rfl <| .move rfl .nil) fun Az Hz => ?_
 refine plz (ecl Hz Tryz.func32 rfl (gchanged_c _ y k fn cnt m hC hF hmn _ _ _ _ _ _ (m38.into [(1, 64)] (by decide) rfl)) ?_)
 rintro e w71 ⟨p71, c71, rfl, hm71⟩
 have mx71 := m38.back hm71 [(64, 1), (66, 9)] (by decide); clear hm71 m38
 have m71 := mx71.oz [64, 66, 60, 61, 62, 63, 65]
 refine ⟨_, rfl, ?_⟩; intro Az Hz
 obtain ⟨L, hL⟩ : ∃ L, chgL (chN y fn cnt m) a9 b9 cnt = L := ⟨_, rfl⟩
 have hLl : L.length ≤ cnt := by rw [← hL]; exact chgL_len _ _ _ _
 rw [hL] at m71 Hz
 refine gz hK6 Hz (.assign rfl .nil) fun Az Hz => ?_
 refine wsk fun K7 hK7 => ?_
 refine regS Hz (.assign rfl .nil) fun Az Hz => ?_
 refine wp_block ?_
 refine wp_loop_ghost (fun g a w => ∃ (i B9 : Nat) (pc pl9 : Option Addr) (cc cl9 : Nat), i ≤ cnt ∧ g = cnt - i ∧ Has 124 [(11, .pointer (some ⟨B9, 0, none⟩)), (12, .int .i64 a9), (13, .int .i64 b9), (14, .slice pl9 L.length cl9), (15, .int .i64 (i : Int))] a ∧ MemOk (cn w0) w0 [(25, .box B9 39 [.int .i64 y.vo, .int .i64 (k : Int), .int .i64 (cnt : Int), .int .i64 y.sz, .int .i64 (m : Nat), .int .i64 (min y.fl (m : Nat)), .slice pc cnt cc]), (26, .dat (.slice pc cnt cc) (.l 1 ((chN y fn cnt m).map hD))), (27, .num (.slice pl9 L.length cl9) 3 .i64 L)] w) (cnt) ?_ ?_
 · exact ⟨0, _, _, _, _, _, Nat.zero_le _, rfl, Hz.only [11, 12, 13, 14, 15], m71.ren [(25, 65), (26, 64), (27, 66)] (by decide)⟩
 clear Hz m71
 rintro g Az w75 ⟨i, B9, pc, pl9, cc, cl9, hil, hg, Hz, m75⟩
 refine wsk fun K8 hK8 => ?_
 refine regS Hz (.move rfl <| .fa 2 rfl U39 <| .lb m75 25 U3 rfl rfl rfl <| .lss rfl rfl .nil) fun Az Hz => ?_
 refine bc Hz 67 ?_ ?_
 ·
  intro hb80 Hz; try simp only [QQ, Qax] at hb80
  have hi : i < cnt := by have := hb80; first | omega | (simp at this; omega)
  refine wct Hz ?_
  refine zss (hK8 _ _ ?_)
  refine wsk fun K9 hK9 => ?_
  refine wp_block ?_
  refine zsr fun K10 hK10 => ?_
  refine goCh Hz (.loadBR m75 (i := 25) rfl rfl U39 rfl fct5 (by simp) (by dsimp only [List.drop, List.take] <;> rfl) <| .move rfl <| .move rfl .nil) fun Az Hz => ?_
  refine plz (ecl Hz Tryz.func33 rfl (gread_c _ y k fn cnt m hC hF hmn _ i a9 _ _ _ rfl hi (by omega) (by omega) (m75.into [(1, 26)] (by decide) rfl)) ?_)
  rintro e w87 ⟨p87, c87, rfl, hm87⟩
  have mx87 := m75.back hm87 [(26, 1), (100, 9)] (by decide); clear hm87 m75
  have m87 := mx87.oz [26, 100, 25, 27]
  refine ⟨_, rfl, ?_⟩; intro Az Hz
  obtain ⟨da, hda⟩ : ∃ d, rdF y fn cnt m i a9 = d := ⟨_, rfl⟩
  rw [hda] at m87 Hz
  refine gz hK10 Hz (.move rfl <| .extract rfl rfl <| .extract rfl rfl <| .assign rfl <| .assign rfl <| .nil) fun Az Hz => ?_
  replace Hz := Hz.oz [11, 12, 13, 14, 15, 16, 17]
  refine zsr fun K11 hK11 => ?_
  refine goCh Hz (.loadBR m87 (i := 25) rfl rfl U39 rfl fct5 (by simp) (by dsimp only [List.drop, List.take] <;> rfl) <| .move rfl <| .move rfl .nil) fun Az Hz => ?_
  refine plz (ecl Hz Tryz.func33 rfl (gread_c _ y k fn cnt m hC hF hmn _ i b9 _ _ _ rfl hi (by omega) (by omega) (m87.into [(1, 26)] (by decide) rfl)) ?_)
  rintro e w101 ⟨p101, c101, rfl, hm101⟩
  have mx101 := m87.back hm101 [(26, 1), (101, 9)] (by decide); clear hm101 m87
  have m101 := mx101.oz [26, 101, 25, 27, 100]
  refine ⟨_, rfl, ?_⟩; intro Az Hz
  obtain ⟨db, hdb⟩ : ∃ d, rdF y fn cnt m i b9 = d := ⟨_, rfl⟩
  rw [hdb] at m101 Hz
  refine gz hK11 Hz (.move rfl <| .extract rfl rfl <| .extract rfl rfl <| .assign rfl <| .assign rfl <| .nil) fun Az Hz => ?_
  replace Hz := Hz.oz [11, 12, 13, 14, 15, 16, 17, 18, 19]
  refine regS Hz (.assign rfl .nil) fun Az Hz => ?_
  refine wsk fun K12 hK12 => ?_
  refine regS Hz (.assign rfl .nil) fun Az Hz => ?_
  refine wp_block ?_
  refine wp_loop_ghost (fun g a w => ∃ (j : Nat) (tb : Bool) (B9 : Nat) (pc pl9 : Option Addr) (cc cl9 : Nat) (pa pb : Option Addr) (ca cb : Nat), j ≤ L.length ∧ g = L.length - j ∧ tb = decide ((i : Int) ∈ L.take j) ∧ Has 124 [(11, .pointer (some ⟨B9, 0, none⟩)), (12, .int .i64 a9), (13, .int .i64 b9), (14, .slice pl9 L.length cl9), (15, .int .i64 (i : Int)), (16, .slice pa da.length ca), (17, .int .i64 0), (18, .slice pb db.length cb), (19, .int .i64 0), (20, .bool tb), (21, .int .i64 (j : Int))] a ∧ MemOk (cn w0) w0 [(25, .box B9 39 [.int .i64 y.vo, .int .i64 (k : Int), .int .i64 (cnt : Int), .int .i64 y.sz, .int .i64 (m : Nat), .int .i64 (min y.fl (m : Nat)), .slice pc cnt cc]), (26, .dat (.slice pc cnt cc) (.l 1 ((chN y fn cnt m).map hD))), (27, .num (.slice pl9 L.length cl9) 3 .i64 L), (28, .dat (.slice pa da.length ca) (.ns .u8 da)), (29, .dat (.slice pb db.length cb) (.ns .u8 db))] w) (L.length) ?_ ?_
  · exact ⟨0, _, _, _, _, _, _, _, _, _, _, Nat.zero_le _, rfl, by rw [List.take_zero]; simp, Hz.only [11, 12, 13, 14, 15, 16, 17, 18, 19, 20, 21], m101.ren [(25, 25), (26, 26), (27, 27), (28, 100), (29, 101)] (by decide)⟩
  clear Hz m101
  rintro g Az w111 ⟨j, tb, B9, pc, pl9, cc, cl9, pa, pb, ca, cb, hjl, hg2, htb, Hz, m111⟩
  refine wsk fun K13 hK13 => ?_
  refine regS Hz (.move rfl <| .move rfl <| .len rfl U31 <| .lss rfl rfl .nil) fun Az Hz => ?_
  refine bc Hz 87 ?_ ?_
  ·
   intro hb116 Hz; try simp only [QQ, Qax] at hb116
   have hj : j < L.length := by have := hb116; first | omega | (simp at this; omega)
   refine wct Hz ?_
   refine zss (hK13 _ _ ?_)
   refine wsk fun K14 hK14 => ?_
   refine wp_block ?_
   refine wp_region_lit ?_
   refine goCh Hz (.move rfl <| .move rfl .nil) fun Az Hz => ?_
   refine bc Hz 91 ?_ ?_
   ·
    intro hb119 Hz; try simp only [QQ, Qax] at hb119
    have htt : tb = true := hb119
    refine gz hK14 Hz (.sk <| .sk <| .sk <| .sk <| .sk <| .sk <| .pickT rfl rfl <| .assign rfl <| .nil) fun Az Hz => ?_
    replace Hz := Hz.oz [11, 12, 13, 14, 15, 16, 17, 18, 19, 20, 21, 91]
    refine wp_region_lit ?_
    refine goCh Hz (.move rfl <| .inc (j + 1) <| .assign rfl .nil) fun Az Hz => ?_
    refine wpList_nil ?_
    show ∃ n', n' < _ ∧ _
    exact ⟨L.length - (j + 1), by omega, j + 1, _, _, _, _, _, _, _, _, _, _, by omega, rfl, by rw [told_snoc hj, ← htb, htt, Bool.true_or], Hz.only [11, 12, 13, 14, 15, 16, 17, 18, 19, 20, 21], m111.ren [(25, 25), (26, 26), (27, 27), (28, 28), (29, 29)] (by decide)⟩
   intro hb119 Hz; try simp only [QQ, Qax] at hb119
   have htt : tb = false := hb119
   refine goCh Hz (.moveZ rfl <| .moveZ rfl .nil) fun Az Hz => ?_
   obtain ⟨g134, hpg134⟩ := m111.openO (i := 27) rfl (Nat.lt_of_le_of_lt (Nat.zero_le _) hj)
   revert Hz
   cases hpg134
   intro Hz
   refine gz hK14 Hz (.g rfl rfl rfl rfl (fun _ h_ => y_idxO h_ rfl rfl U31 fct30 (j) rfl hj) <| .g rfl rfl rfl rfl (fun _ h_ => y_loadO h_ m111 (i := 27) rfl rfl rfl hj U3 rfl) <| .moveZ rfl <| .eqlZ rfl rfl <| .pickF rfl rfl <| .assign rfl <| .nil) fun Az Hz => ?_
   replace Hz := Hz.oz [11, 12, 13, 14, 15, 16, 17, 18, 19, 20, 21, 91]
   refine wp_region_lit ?_
   refine goCh Hz (.move rfl <| .inc (j + 1) <| .assign rfl .nil) fun Az Hz => ?_
   refine wpList_nil ?_
   show ∃ n', n' < _ ∧ _
   exact ⟨L.length - (j + 1), by omega, j + 1, _, _, _, _, _, _, _, _, _, _, by omega, rfl, by rw [told_snoc hj, ← htb, htt, Bool.false_or], Hz.only [11, 12, 13, 14, 15, 16, 17, 18, 19, 20, 21], m111.ren [(25, 25), (26, 26), (27, 27), (28, 28), (29, 29)] (by decide)⟩
  intro hb116 Hz; try simp only [QQ, Qax] at hb116
  revert Hz
  obtain rfl : j = L.length := by have := hb116; first | omega | (simp at this; omega)
  intro Hz
  rw [List.take_length] at htb
  refine wcf Hz ?_
  refine wp_exit ?_
  refine hK12 _ _ ?_
  refine zsr fun K15 hK15 => ?_
  refine goCh Hz (.move rfl <| .neq rfl rfl <| .move rfl .nil) fun Az Hz => ?_
  refine bc Hz 101 ?_ ?_
  · intro hb _; exact absurd hb (by first | (simp; done) | (simp; omega) | (rw [hxy]; simp))
  clear Hz; intro _ Hz
  refine goCh Hz (.moveZ rfl <| .neqZ rfl rfl <| .pickF rfl rfl <| .move rfl .nil) fun Az Hz => ?_
  refine bc Hz 105 ?_ ?_
  · intro hb _; exact absurd hb (by first | (simp; done) | (simp; omega) | (rw [hxy]; simp))
  clear Hz; intro _ Hz
  refine goCh Hz (.moveZ rfl <| .notZ rfl <| .moveZ rfl .nil) fun Az Hz => ?_
  refine bc Hz 108 ?_ ?_
  ·
   intro hb160 Hz; try simp only [QQ, Qax] at hb160
   have htt : tb = false := by have h8 := hb160; simpa using h8
   have hxy : da = db := by
     rw [← hda, ← hdb]
     exact rd_same hF hmn (by omega) hi (chgL_mem hi (by rw [hL]; exact of_decide_eq_false (htb.symm.trans htt)))
   refine gz hK15 Hz (.moveZ rfl <| .strZ rfl (m111.nums (i := 28) rfl) U22 U5 U9 <| .moveZ rfl <| .strZ rfl (m111.nums (i := 29) rfl) U22 U5 U9 <| .neqSZ rfl rfl <| .pickTZ rfl rfl <| .pickF rfl rfl <| .nil) fun Az Hz => ?_
   refine bc Hz 115 ?_ ?_
   · intro hb _; exact absurd hb (by first | (simp; done) | (simp; omega) | (rw [hxy]; simp))
   clear Hz; intro _ Hz
   refine wcf Hz ?_
   refine zss (hK9 _ _ ?_)
   replace Hz := Hz.oz [11, 12, 13, 14, 15, 16, 17, 18, 19, 20, 21]
   refine wp_region_lit ?_
   refine goCh Hz (.move rfl <| .inc (i + 1) <| .assign rfl .nil) fun Az Hz => ?_
   refine wpList_nil ?_
   show ∃ n', n' < _ ∧ _
   exact ⟨cnt - (i + 1), by omega, i + 1, _, _, _, _, _, by omega, rfl, Hz.only [11, 12, 13, 14, 15], m111.ren [(25, 25), (26, 26), (27, 27)] (by decide)⟩
  intro hb160 Hz; try simp only [QQ, Qax] at hb160
  refine gz hK15 Hz (.sk <| .sk <| .sk <| .sk <| .sk <| .pickFZ rfl rfl <| .pickF rfl rfl <| .nil) fun Az Hz => ?_
  refine wcf Hz ?_
  refine zss (hK9 _ _ ?_)
  replace Hz := Hz.oz [11, 12, 13, 14, 15, 16, 17, 18, 19, 20, 21]
  refine wp_region_lit ?_
  refine goCh Hz (.move rfl <| .inc (i + 1) <| .assign rfl .nil) fun Az Hz => ?_
  refine wpList_nil ?_
  show ∃ n', n' < _ ∧ _
  exact ⟨cnt - (i + 1), by omega, i + 1, _, _, _, _, _, by omega, rfl, Hz.only [11, 12, 13, 14, 15], m111.ren [(25, 25), (26, 26), (27, 27)] (by decide)⟩
 intro hb80 Hz; try simp only [QQ, Qax] at hb80
 refine wcf Hz ?_
 refine wp_exit ?_
 refine hK7 _ _ ?_
 refine zsr fun K16 hK16 => ?_
 refine goCh Hz (.move rfl <| .move rfl <| .neq rfl rfl <| .move rfl .nil) fun Az Hz => ?_
 refine bc Hz 119 ?_ ?_
 ·
  intro hb192 Hz; try simp only [QQ, Qax] at hb192
  refine gz hK16 Hz (.sk <| .sk <| .sk <| .pickT rfl rfl <| .assign rfl <| .nil) fun Az Hz => ?_
  refine rt1 Hz ?_
  exact ⟨by (first | rfl | simp), m75.below⟩
 intro hb192 Hz; try simp only [QQ, Qax] at hb192
 have hab : a9 = b9 := by have := hb192; first | omega | (simp at this; omega) | (simp at this; exact this)
 have hL0 : L = [] := by rw [← hL, hab, chgL_self]
 refine gz hK16 Hz (.moveZ rfl <| .lenZ rfl U31 <| .eqlZ rfl rfl <| .pickF rfl rfl <| .assign rfl <| .nil) fun Az Hz => ?_
 refine rt1 Hz ?_
 exact ⟨by rw [hL0]; rfl, m75.below⟩
end Go.Proofs.YteglmahnkfgelaaGreat.K
