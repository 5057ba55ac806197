/- ExportStates' walk. -/
import Derived.Test.YtamjnimaeecmoaaGreatExp8
import Derived.Test.YtamjnimaeecmoaaGreatG5
namespace Go.Proofs.YtamjnimaeecmoaaGreat.K
open Go.ChangeShapes Go.WideShapes Go.ChangeAt Go.RowKit
set_option linter.unusedVariables false
set_option linter.unusedSimpArgs false
theorem whole_at {y : VolV} {n tn : Nat} {S : List (List Int)} (hS : VolS n y) (hn : n ≤ 1000) (hS9 : stL y.bl y.sz y.ws tn = S) (ht : tn ≤ 1000) : (S.length : Int) = y.bl ∧ StreamOk y.bl y.sz (-1) (tn : Int) (wholeI S S.length) := by
 have hF := hS.f hn
 have hb := hF.bl
 have hl : (S.length : Int) = y.bl := by rw [← hS9, stL_len]; omega
 have h := whole_ok hS hn hl (fun k hk => by rw [← hS9] at hk ⊢; exact stL_sz hS.1 tn k hk)
 exact ⟨hl, h.b, h.z, h.f, ⟨by omega, by omega⟩, by omega, h.l, h.i, h.len⟩
theorem last_snoc {L : List (Int × Nat)} {f : Int} {t : Nat} {z : Int × Nat} (h : (L ++ [(f, t)])[(L ++ [(f, t)]).length - 1]? = some z) : (t : Int) = (z.2 : Int) := by
 rw [List.length_append, List.length_singleton, Nat.add_sub_cancel, List.getElem?_append_right (Nat.le_refl _), Nat.sub_self] at h
 obtain rfl : (f, t) = z := by simpa using h
 rfl
theorem stR_full {y : VolV} {t : Nat} : stR y (-1, t) = [.v (.int .i64 y.bl), .v (.int .i64 y.sz), .v (.int .i64 (-1)), .v (.int .i64 (t : Int)), .l 2 ((wholeI (stL y.bl y.sz y.ws t) y.bl.toNat).map itD)] := by
 unfold stR stI; rw [if_pos (by show (-1 : Int) < 0; omega)]
theorem stR_since {y : VolV} {f : Int} {t : Nat} (h : 0 ≤ f) : stR y (f, t) = [.v (.int .i64 y.bl), .v (.int .i64 y.sz), .v (.int .i64 f), .v (.int .i64 (t : Int)), .l 2 ((selI (stL y.bl y.sz y.ws t) (chgB y f (t : Int)) y.bl.toNat).map itD)] := by
 unfold stR stI; rw [if_neg (by show ¬ f < 0; omega)]
theorem eblocks_n (X : Cx) (bl sz fr to : Int) (S : List (List Int)) (N : Nat) (pi : Option Addr) (ni ci : Nat) (w0 : World) (hN : N = S.length) (hs : StreamOk bl sz fr to (wholeI S S.length)) (hfr : fr = -1) (m0 : MemOk X w0 [(3, .dat (.slice pi ni ci) (.l 2 ((wholeI S N).map itD)))] w0) :
   Calls Tryz.prog 25 #[.agg #[.int .i64 bl, .int .i64 sz, .int .i64 fr, .int .i64 to, .slice pi ni ci]] w0 fun e w' => ∃ (p : Option Addr) (c : Nat), e = .returned (.slice p (S.map bD).length c) ∧ MemOk X w0 [(9, .dat (.slice p (S.map bD).length c) (.l 1 (S.map bD)))] w' := by
 subst hN
 obtain rfl : ni = ((wholeI S S.length).map itD).length := by rw [List.length_map]; exact nnOf (m0.rd (i := 3) rfl)
 refine (rblocks_any X bl sz fr to S pi ci w0 hs hfr m0).mono fun e w' h => ?_
 obtain ⟨p, c, h1, h2⟩ := h
 exact ⟨p, c, h1, h2.ren [(9, 9)] (by decide)⟩
set_option maxRecDepth 100000
set_option maxHeartbeats 4000000
theorem states_walk (l l2 : List Int) (pl pt : Option Addr) (cl ct : Nat) (w0 : World) (h1 : Rd (fun _ => True) w0 (.slice pl l.length cl) (.ns .u8 l)) (hlb : ∀ j, j < l.length → 0 ≤ l.getD j 0 ∧ l.getD j 0 ≤ 255) (h2 : Rd (fun _ => True) w0 (.slice pt l2.length ct) (.ns .u8 l2)) (hlb2 : ∀ j, j < l2.length → 0 ≤ l2.getD j 0 ∧ l2.getD j 0 ≤ 255) :
   Calls Tryz.prog 4 #[.slice pl l.length cl, .slice pt l2.length ct] w0 fun e w' => e = .returned (.bool true) ∧ Below w0.heap.size w0 w' := by
 refine ent2 Tryz.func4 rfl Tryz.ntmps4 fun Az Hz => ?_
 have m0 := MemOk.start (fun _ => False) w0
 refine regS Hz (.assign rfl .nil) fun Az Hz => ?_
 refine wsk fun K0 hK0 => ?_
 refine zsr fun K1 hK1 => ?_
 refine plz (ecb Hz Tryz.func8 rfl m0 (eknown_x _) fun Az w2 Hz m3 => ?_)
 refine gz hK1 Hz (.not rfl .nil) fun Az Hz => ?_
 refine wcf Hz ?_
 refine zss (hK0 _ _ ?_)
 refine wsk fun K2 hK2 => ?_
 refine zsr fun K3 hK3 => ?_
 refine goCh Hz (.move rfl <| .len rfl U22 <| .gtr rfl rfl <| .move rfl .nil) fun Az Hz => ?_
 refine bc Hz 23 ?_ ?_
 ·
  intro hb14 Hz; try simp only [QQ, Qax] at hb14
  refine gz hK3 Hz (.sk <| .sk <| .sk <| .pickT rfl rfl <| .move rfl <| .sk <| .sk <| .sk <| .pickT rfl rfl <| .nil) fun Az Hz => ?_
  refine wct Hz ?_
  replace Hz := Hz.oz [0, 1, 4]
  refine regS Hz (.assign rfl .nil) fun Az Hz => ?_
  refine rt1 Hz ?_
  exact ⟨by (first | rfl | simp), m3.below⟩
 intro hb14 Hz; try simp only [QQ, Qax] at hb14
 have hl80 : l.length ≤ 80 := by have := hb14; first | omega | (simp at this; omega) | (simp at this; exact this)
 refine goCh Hz (.moveZ rfl <| .lenZ rfl U22 <| .gtrZ rfl rfl <| .pickF rfl rfl <| .move rfl .nil) fun Az Hz => ?_
 refine bc Hz 28 ?_ ?_
 ·
  intro hb31 Hz; try simp only [QQ, Qax] at hb31
  refine gz hK3 Hz (.sk <| .sk <| .sk <| .pickT rfl rfl <| .nil) fun Az Hz => ?_
  refine wct Hz ?_
  replace Hz := Hz.oz [0, 1, 4]
  refine regS Hz (.assign rfl .nil) fun Az Hz => ?_
  refine rt1 Hz ?_
  exact ⟨by (first | rfl | simp), m3.below⟩
 intro hb31 Hz; try simp only [QQ, Qax] at hb31
 have hl6 : l2.length ≤ 6 := by have := hb31; first | omega | (simp at this; omega) | (simp at this; exact this)
 refine gz hK3 Hz (.moveZ rfl <| .lenZ rfl U22 <| .eqlZ rfl rfl <| .pickF rfl rfl <| .nil) fun Az Hz => ?_
 refine bc Hz 32 ?_ ?_
 ·
  intro hb42 Hz; try simp only [QQ, Qax] at hb42
  refine wct Hz ?_
  replace Hz := Hz.oz [0, 1, 4]
  refine regS Hz (.assign rfl .nil) fun Az Hz => ?_
  refine rt1 Hz ?_
  exact ⟨by (first | rfl | simp), m3.below⟩
 intro hb42 Hz; try simp only [QQ, Qax] at hb42
 have hl20 : 0 < l2.length := by have := hb42; first | omega | (simp at this; exact List.length_pos_iff.2 this) | (simp at this; omega)
 refine wcf Hz ?_
 refine zss (hK2 _ _ ?_)
 replace Hz := Hz.oz [0, 1, 4]
 refine zsr fun K4 hK4 => ?_
 refine goCh Hz (.move rfl .nil) fun Az Hz => ?_
 refine plz (ecl Hz Tryz.func10 rfl (svol_any l _ _ _ ((h1.now' m3 rfl).any) (by omega) hlb) ?_)
 rintro e w48 ⟨y, p148, p248, p348, d148, d248, d348, rfl, hS, hd48, he48, hf48, hb48⟩
 have m49 := m3.callF3 70 71 72 rfl rfl rfl hb48 hd48 he48 hf48
 clear hb48 hd48 he48 hf48
 obtain ⟨n, hn9⟩ : ∃ n, l.length = n := ⟨_, rfl⟩
 rw [hn9] at hS
 have hn : n ≤ 1000 := by omega
 have hF := hS.f hn
 have hpp := place_pos hS
 have hpt := place_top hS
 have hn80 : y.ws.length ≤ 80 := by have := hS.2.2.2.1; omega
 have hyb := hF.bl
 have hyz := hF.sz
 have hf0 := hF.fl0
 have hf1 := hF.fl1
 refine ⟨_, rfl, ?_⟩; intro Az Hz
 refine plz (e_alloc Hz m49 73 fct2 rfl fun g51 Az w52 Hz m52 _ _ => ?_)
 refine plz (stw Hz m52 73 fct1 fun w53 m53 _ => ?_)
 refine znl (hK4 _ _ ?_)
 refine wsk fun K5 hK5 => ?_
 refine regS Hz (.fa 7 rfl U33 <| .lb m53 73 U4 rfl rfl rfl .nil) fun Az Hz => ?_
 refine bc Hz 36 ?_ ?_
 ·
  intro hb56 Hz; try simp only [QQ, Qax] at hb56
  refine wct Hz ?_
  refine regS Hz (.assign rfl .nil) fun Az Hz => ?_
  refine rt1 Hz ?_
  exact ⟨by (first | rfl | simp), m53.below⟩
 intro hb56 Hz; try simp only [QQ, Qax] at hb56
 have hhi : y.hi = false := hb56
 refine wcf Hz ?_
 refine zss (hK5 _ _ ?_)
 refine regS Hz (.assign rfl .nil) fun Az Hz => ?_
 refine wsk fun K6 hK6 => ?_
 refine regS Hz (.assign rfl .nil) fun Az Hz => ?_
 refine wp_block ?_
 refine wp_loop_ghost (fun g a w => ∃ (i BV : Nat) (p1 p2 p3 : Option Addr) (d1 d2 d3 : Nat) (p9 : Option Addr) (c9 : Nat), i ≤ y.place.length ∧ g = y.place.length - i ∧ Has 118 [(5, .pointer (some ⟨BV, 0, none⟩)), (6, .slice p9 ((allL y i).map (ckD y)).length c9), (7, .int .i64 (i : Int)), (1, .slice pt l2.length ct)] a ∧ MemOk (cn w0) w0 [(20, .box BV 33 [.int .i64 y.vo, .int .i64 y.bl, .int .i64 y.sz, .int .i64 y.pe, .slice p1 y.place.length d1, .int .i64 y.to, .int .i64 y.ne, .bool y.hi, .int .i64 y.fl, .slice p2 y.pins.length d2, .slice p3 (y.ws.map wrD).length d3]), (21, .dat (.slice p1 y.place.length d1) (.ns .i64 y.place)), (22, .dat (.slice p2 y.pins.length d2) (.ns .i64 y.pins)), (23, .dat (.slice p3 (y.ws.map wrD).length d3) (.l 2 (y.ws.map wrD))), (9, .row (.slice p9 ((allL y i).map (ckD y)).length c9) 28 7 ((allL y i).map (ckD y)))] w) (y.place.length) ?_ ?_
 · have mz := m53.nilR 9 28 7
   exact ⟨0, _, _, _, _, _, _, _, _, _, Nat.zero_le _, rfl, Hz.only [5, 6, 7, 1], mz.ren [(20, 73), (21, 70), (22, 71), (23, 72), (9, 9)] (by decide)⟩
 clear Hz m53
 rintro g Az w60 ⟨i, BV, p1, p2, p3, d1, d2, d3, p9, c9, hil, hg, Hz, m60⟩
 refine wsk fun K7 hK7 => ?_
 refine regS Hz (.move rfl <| .fa 4 rfl U33 <| .lb m60 20 U29 rfl rfl rfl <| .len rfl U29 <| .lss rfl rfl .nil) fun Az Hz => ?_
 refine bc Hz 41 ?_ ?_
 ·
  intro hb66 Hz; try simp only [QQ, Qax] at hb66
  have hi : i < y.place.length := by have := hb66; first | omega | (simp at this; omega) | (simp at this; exact this)
  refine wct Hz ?_
  refine zss (hK7 _ _ ?_)
  refine wsk fun K8 hK8 => ?_
  refine wp_block ?_
  refine wp_region_lit ?_
  refine goCh Hz (.move rfl <| .loadBR m60 (i := 20) rfl rfl U33 rfl fct1 (by simp) (by dsimp only [List.drop, List.take] <;> rfl) <| .move rfl .nil) fun Az Hz => ?_
  refine plz (ecl Hz Tryz.func12 rfl (eall_ck _ y n hS hn _ _ _ _ _ _ _ i 1000 _ hi (by omega) (m60.into [(3, 23)] (by decide) rfl)) ?_)
  rintro e w70 ⟨p70, c70, rfl, hm70⟩
  have mx70 := m60.back hm70 [(23, 3), (100, 9)] (by decide); clear hm70 m60
  have m70 := mx70.oz [23, 100, 9, 20, 21, 22]
  refine ⟨_, rfl, ?_⟩; intro Az Hz
  refine plz (e_litR Hz m70 101 (mm := 7) rfl (.cons rfl rfl (.cons (.v _) (.cons (.v _) (.cons (.v _) (.cons (.v _) (.cons (.v _) (.cons (.v _) (.cons (m70.rd (i := 100) rfl) .nil))))))) .nil) U23 fct34 rfl rfl rfl rfl rfl fun g72 Az w73 Hz m73 => ?_)
  have m75 := m73.freezeR 101 rfl
  refine plz (e_appR Hz m75 9 rfl rfl rfl (m75.rd (i := 101) rfl) U23 fct34 rfl rfl (by decide) (by have h9 := allL_len y i; simp at h9 ⊢; omega) rfl fun p74 c74 Az w76 Hz m76 => ?_)
  refine gz hK8 Hz (.assign rfl .nil) fun Az Hz => ?_
  replace Hz := Hz.oz [5, 6, 7, 1]
  refine wp_region_lit ?_
  refine goCh Hz (.move rfl <| .inc (i + 1) <| .assign rfl .nil) fun Az Hz => ?_
  refine wpList_nil ?_
  show ∃ n', n' < _ ∧ _
  have hE : ((allL y i).map (ckD y)) ++ [[D.v (.int .i64 y.vo), .v (.int .i64 (i : Int)), .v (.int .i64 (cnY y i : Int)), .v (.int .i64 y.sz), .v (.int .i64 (y.ws.length : Int)), .v (.int .i64 (min y.fl (y.ws.length : Int))), .l 1 ((chN y (fnY y i) (cnY y i) y.ws.length).map hD)]] = ((allL y (i + 1)).map (ckD y)) := by rw [allL_snoc, List.map_append]; rfl
  rw [hE] at m76 Hz
  exact ⟨y.place.length - (i + 1), by omega, i + 1, _, _, _, _, _, _, _, _, _, by omega, rfl, Hz.only [5, 6, 7, 1], m76.ren [(20, 20), (21, 21), (22, 22), (23, 23), (9, 9)] (by decide)⟩
 intro hb66 Hz; try simp only [QQ, Qax] at hb66
 obtain rfl : i = y.place.length := by have := hb66; first | omega | (simp at this; omega) | (simp at this; exact this)
 refine wcf Hz ?_
 refine wp_exit ?_
 refine hK6 _ _ ?_
 refine regS Hz (.assign rfl .nil) fun Az Hz => ?_
 refine regS Hz (.fa 8 rfl U33 <| .lb m60 20 U2 rfl rfl rfl <| .assign rfl .nil) fun Az Hz => ?_
 refine wsk fun K9 hK9 => ?_
 replace Hz := Hz.oz [5, 6, 7, 1, 8, 9]
 refine regS Hz (.assign rfl .nil) fun Az Hz => ?_
 refine wp_block ?_
 have m88 := m60.freezeR 9 rfl
 refine wp_loop_ghost (fun g a w => ∃ (i BV : Nat) (q1 q2 q3 : Option Addr) (d1 d2 d3 : Nat) (p9 ps : Option Addr) (c9 cs : Nat) (Ls : List (Int × Nat)) (t9 : Int), i ≤ l2.length ∧ g = l2.length - i ∧ Ls.length = i ∧ ChS y Ls ∧ (y.fl ≤ t9 ∧ t9 ≤ (y.ws.length : Int)) ∧ (∀ z, Ls[Ls.length - 1]? = some z → t9 = (z.2 : Int)) ∧ Has 118 [(1, .slice pt l2.length ct), (5, .pointer (some ⟨BV, 0, none⟩)), (6, .slice p9 ((allL y y.place.length).map (ckD y)).length c9), (8, .slice ps (Ls.map (stR y)).length cs), (9, .int .i64 t9), (10, .int .i64 (i : Int))] a ∧ MemOk (cn w0) w0 [(20, .box BV 33 [.int .i64 y.vo, .int .i64 y.bl, .int .i64 y.sz, .int .i64 y.pe, .slice q1 y.place.length d1, .int .i64 y.to, .int .i64 y.ne, .bool y.hi, .int .i64 y.fl, .slice q2 y.pins.length d2, .slice q3 (y.ws.map wrD).length d3]), (21, .dat (.slice q1 y.place.length d1) (.ns .i64 y.place)), (22, .dat (.slice q2 y.pins.length d2) (.ns .i64 y.pins)), (23, .dat (.slice q3 (y.ws.map wrD).length d3) (.l 2 (y.ws.map wrD))), (24, .dat (.slice p9 ((allL y y.place.length).map (ckD y)).length c9) (.l 7 ((allL y y.place.length).map (ckD y)))), (25, .row (.slice ps (Ls.map (stR y)).length cs) 42 5 (Ls.map (stR y)))] w) (l2.length) ?_ ?_
 · have mz := m88.nilR 25 42 5
   exact ⟨0, _, _, _, _, _, _, _, _, _, _, _, [], y.fl, Nat.zero_le _, rfl, rfl, (fun i x hx => by cases hx), ⟨Int.le_refl _, hf1⟩, (fun z hz => by cases hz), Hz.only [1, 5, 6, 8, 9, 10], mz.ren [(20, 20), (21, 21), (22, 22), (23, 23), (24, 9), (25, 25)] (by decide)⟩
 clear Hz m88
 rintro g Az w89 ⟨i, BV, q1, q2, q3, d1, d2, d3, p9, ps, c9, cs, Ls, t9, hil, hg, hLs, hch, ht9, hlast, Hz, m89⟩
 refine wsk fun K10 hK10 => ?_
 refine regS Hz (.move rfl <| .move rfl <| .len rfl U22 <| .lss rfl rfl .nil) fun Az Hz => ?_
 refine bc Hz 55 ?_ ?_
 ·
  intro hb94 Hz; try simp only [QQ, Qax] at hb94
  have hi : i < l2.length := by have := hb94; first | omega | (simp at this; omega) | (simp at this; exact this)
  refine wct Hz ?_
  refine zss (hK10 _ _ ?_)
  refine wsk fun K11 hK11 => ?_
  refine wp_block ?_
  refine wsk fun K12 hK12 => ?_
  obtain ⟨gx96, ox96, hp96, hl96, hrg96⟩ := h2.extN (i) hi
  revert Hz
  cases hp96
  intro Hz
  obtain ⟨x9, hx9, hx90⟩ : ∃ x : Int, l2.getD i 0 = x ∧ 0 ≤ x ∧ x ≤ 255 := ⟨_, rfl, hlb2 i hi⟩
  obtain ⟨u9, hu9, hu0, hu1⟩ := rng_at (f := t9) (m := (y.ws.length : Int)) (x := x9) (by omega) (by omega)
  revert Hz
  obtain ⟨un, rfl⟩ : ∃ un : Nat, u9 = (un : Int) := ⟨u9.toNat, by omega⟩
  intro Hz
  have m97 := m89.oz [20, 21, 22, 23, 24, 25]
  refine region_p 14 (B := [(20, _), (21, _), (22, _), (23, _), (24, _), (25, _)]) (m97.to ⟨il, il, il, il, il, il, trivial⟩) m97 (by kernel_rfl) (fun w98 hP98 m98 => ?_); clear m97
  refine goR hP98 [0, 1, 2, 3, 4, 5, 6, 8] [4, 6] 8 0 383 Hz (m98.to ⟨il, il, il, il, il, il, trivial⟩) (.move rfl <| .move rfl <| .move rfl <| .p (fun _ _ h_ => y_idx h_ rfl rfl U22 fct33 (i) rfl hi) <| .loadAt1 (fun _ h_ => (hrg96 h_ rfl)) (q := 0) rfl rfl rfl U5 rfl <| .conv rfl U5 U2 (r := x9) (by rw [hx9]; exact IntWalk.i64_in _ (by omega)) <| .loadBR hh (i := 20) rfl rfl U33 rfl fct1 (by simp) (by dsimp only [List.drop, List.take] <;> rfl) <| .move rfl .nil) fun Az Hz => ?_
  refine so 7 ?_
  refine ecb Hz Tryz.func13 rfl m98 (rlen_y y _ _ _ _ _ _ _ _ _) fun Az w107 Hz m108 => ?_
  refine ⟨m108.to ⟨il, il, il, il, il, il, trivial⟩, ?_⟩
  refine goA hP98 [9, 10, 11, 12, 13] 5 511 16383 Hz (m108.to ⟨il, il, il, il, il, il, trivial⟩) (.sub rfl rfl (r := (y.ws.length : Int) - t9) (IntWalk.i64_in _ (by omega)) <| .add rfl rfl (r := (y.ws.length : Int) - t9 + 1) (IntWalk.i64_in _ (by omega)) <| .rem rfl rfl (by omega) rfl <| .add rfl rfl (r := (un : Int)) (by rw [hu9]; exact IntWalk.i64_in _ (by omega)) <| .assign rfl .nil) fun Az Hz => ?_
  refine wpAnyE_done (by kernel_rfl) ?_ _
  refine hK12 _ _ ?_
  replace Hz := Hz.oz [1, 5, 6, 8, 9, 10, 11]
  refine zsr fun K13 hK13 => ?_
  refine goCh Hz (.loadBR m108 (i := 20) rfl rfl U33 rfl fct1 (by simp) (by dsimp only [List.drop, List.take] <;> rfl) <| .move rfl <| .move rfl <| .move rfl .nil) fun Az Hz => ?_
  refine plz (ecl Hz Tryz.func17 rfl (esince_n _ y n hS hn _ _ _ _ _ _ _ (allL y y.place.length) _ _ _ t9 (un : Int) _ (by rw [allL_len]; omega) allL_lo (.inr ⟨allL_ne hpp, allL_le, fun k hk => allL_mem hk⟩) (m108.into [(3, 23), (4, 24)] (by decide) rfl)) ?_)
  rintro e w124 ⟨ea, bla, sza, fra, ta, itsa, p124, c124, hEa, rfl, hm124⟩
  have mx124 := m108.back hm124 [(23, 3), (24, 4), (200, 9)] (by decide); clear hm124 m108
  have m124 := mx124.oz [23, 24, 200, 20, 21, 22, 25]
  refine ⟨_, rfl, ?_⟩; intro Az Hz
  have hra : ea = 0 ∧ y.bl = bla ∧ y.sz = sza ∧ t9 = fra ∧ (un : Int) = ta ∧ selI (stL y.bl y.sz y.ws un) (chgB y t9 (un : Int)) y.bl.toNat = itsa := by
    rcases hEa with ⟨h1, -⟩ | ⟨-, h1, -⟩ | ⟨-, -, h1, -⟩ | ⟨-, -, -, h1, -⟩ | ⟨-, -, -, -, h1, -⟩ | ⟨-, -, -, -, -, h1, h2, h3, h4, h5, h6⟩
    · rw [hhi] at h1; cases h1
    · omega
    · omega
    · omega
    · exact absurd h1 (allL_ne hpp)
    exact ⟨h1, h2.symm, h3.symm, h4.symm, h5.symm, by rw [h6, Int.toNat_natCast]⟩
  revert Hz
  obtain ⟨ha1, rfl, rfl, rfl, rfl, rfl⟩ := hra
  intro Hz
  refine goCh Hz (.move rfl <| .extract rfl rfl <| .extract rfl rfl .nil) fun Az Hz => ?_
  refine plz (e_alloc Hz m124 201 fct38 rfl fun g129 Az w130 Hz m130 _ _ => ?_)
  refine plz (stw Hz m130 201 fct37 fun w131 m131 _ => ?_)
  refine gz hK13 Hz (.assign rfl .nil) fun Az Hz => ?_
  refine wsk fun K14 hK14 => ?_
  replace Hz := Hz.oz [1, 5, 6, 8, 9, 10, 11, 12, 13]
  refine regS Hz (.move rfl <| .eql rfl rfl .nil) fun Az Hz => ?_
  refine bc Hz 80 ?_ ?_
  ·
   intro hb136 Hz; try simp only [QQ, Qax] at hb136
   have hi0 : i = 0 := by have := hb136; first | omega | (simp at this; omega) | (simp at this; exact this)
   refine wct Hz ?_
   refine wp_region_lit ?_
   refine goCh Hz (.loadBR m131 (i := 20) rfl rfl U33 rfl fct1 (by simp) (by dsimp only [List.drop, List.take] <;> rfl) <| .move rfl <| .move rfl .nil) fun Az Hz => ?_
   refine plz (ecl Hz Tryz.func14 rfl (efull_n _ y n hS hn _ _ _ _ _ _ _ (allL y y.place.length) _ _ _ (un : Int) _ (by rw [allL_len]; omega) allL_lo (.inr ⟨allL_ne hpp, fun h1 h2 k hk => ⟨_, allL_mem hk, by omega, by omega⟩⟩) (m131.into [(3, 23), (4, 24)] (by decide) rfl)) ?_)
   rintro e w140 ⟨eb, blb, szb, frb, tb, itsb, p140, c140, hEb, rfl, hm140⟩
   have mx140 := m131.back hm140 [(23, 3), (24, 4), (202, 9)] (by decide); clear hm140 m131
   have m140 := mx140.oz [23, 24, 202, 20, 21, 22, 25, 200, 201]
   refine ⟨_, rfl, ?_⟩; intro Az Hz
   have hrb : eb = 0 ∧ y.bl = blb ∧ y.sz = szb ∧ -1 = frb ∧ (un : Int) = tb ∧ wholeI (stL y.bl y.sz y.ws un) y.bl.toNat = itsb := by
     rcases hEb with ⟨h1, -⟩ | ⟨-, h1, -⟩ | ⟨-, -, h1, -⟩ | ⟨-, -, -, h1, -⟩ | ⟨-, -, -, -, h1, h2, h3, h4, h5, h6⟩
     · rw [hhi] at h1; cases h1
     · omega
     · omega
     · exact absurd h1 (allL_ne hpp)
     exact ⟨h1, h2.symm, h3.symm, h4.symm, h5.symm, by rw [h6, Int.toNat_natCast]⟩
   revert Hz
   obtain ⟨hb1, rfl, rfl, rfl, rfl, rfl⟩ := hrb
   intro Hz
   refine goCh Hz (.move rfl <| .extract rfl rfl <| .extract rfl rfl .nil) fun Az Hz => ?_
   refine plz (stw Hz m140 201 fct37 fun w145 m145 _ => ?_)
   refine gz hK14 Hz (.assign rfl .nil) fun Az Hz => ?_
   refine wsk fun K15 hK15 => ?_
   replace Hz := Hz.oz [1, 5, 6, 8, 9, 10, 11, 12, 13, 80]
   refine regS Hz (.move rfl <| .neq rfl rfl .nil) fun Az Hz => ?_
   refine bc Hz 89 ?_ ?_
   · intro hb _; exact absurd hb (by first | (simp [hb1]; done) | (simp [ha1]; done))
   clear Hz; intro _ Hz
   refine wcf Hz ?_
   refine zss (hK15 _ _ ?_)
   refine wp_region_lit ?_
   refine goCh Hz (.move rfl <| .loadBR m145 (i := 201) rfl rfl U42 rfl fct37 (by simp) (by dsimp only [List.drop, List.take] <;> rfl) .nil) fun Az Hz => ?_
   refine plz (e_litR Hz m145 203 (mm := 5) rfl (.cons rfl rfl (.cons (.v _) (.cons (.v _) (.cons (.v _) (.cons (.v _) (.cons (m145.rd (i := 202) rfl) .nil))))) .nil) U55 fct44 rfl rfl rfl rfl rfl fun g153 Az w154 Hz m154 => ?_)
   have m156 := m154.freezeR 203 rfl
   refine plz (e_appR Hz m156 25 rfl rfl rfl (m156.rd (i := 203) rfl) U55 fct44 rfl rfl (by decide) (by simp; omega) rfl fun p155 c155 Az w157 Hz m157 => ?_)
   refine gz hK11 Hz (.move rfl <| .assign rfl <| .assign rfl <| .nil) fun Az Hz => ?_
   replace Hz := Hz.oz [1, 5, 6, 8, 9, 10, 80]
   refine wp_region_lit ?_
   refine goCh Hz (.move rfl <| .add rfl rfl (IntWalk.i64_in _ (by omega)) <| .assign rfl .nil) fun Az Hz => ?_
   refine wpList_nil ?_
   show ∃ n', n' < _ ∧ _
   have hE : (Ls.map (stR y)) ++ [[D.v (.int .i64 y.bl), .v (.int .i64 y.sz), .v (.int .i64 (-1)), .v (.int .i64 (un : Int)), .l 2 ((wholeI (stL y.bl y.sz y.ws un) y.bl.toNat).map itD)]] = ((Ls ++ [((-1), un)]).map (stR y)) := by rw [List.map_append, List.map_singleton, stR_full]
   rw [hE] at m157 Hz
   exact ⟨l2.length - (i + 1), by omega, i + 1, _, _, _, _, _, _, _, _, _, _, _, Ls ++ [((-1), un)], (un : Int), by omega, rfl, by rw [List.length_append, hLs]; rfl, hch.snoc ⟨by omega, by omega⟩ (by omega) (by omega) (fun _ => rfl) (fun z hz => by rw [List.eq_nil_of_length_eq_zero (l := Ls) (by omega)] at hz; cases hz), ⟨by omega, by omega⟩, (fun z hz => last_snoc hz), Hz.only [1, 5, 6, 8, 9, 10], m157.ren [(20, 20), (21, 21), (22, 22), (23, 23), (24, 24), (25, 25)] (by decide)⟩
  intro hb136 Hz; try simp only [QQ, Qax] at hb136
  have hi0 : i ≠ 0 := by have := hb136; first | omega | (simp at this; omega) | (simp at this; exact this)
  refine wcf Hz ?_
  refine zss (hK14 _ _ ?_)
  refine wsk fun K16 hK16 => ?_
  refine regS Hz (.move rfl <| .neq rfl rfl .nil) fun Az Hz => ?_
  refine bc Hz 89 ?_ ?_
  · intro hb _; exact absurd hb (by first | (simp [hb1]; done) | (simp [ha1]; done))
  clear Hz; intro _ Hz
  refine wcf Hz ?_
  refine zss (hK16 _ _ ?_)
  refine wp_region_lit ?_
  refine goCh Hz (.move rfl <| .loadBR m131 (i := 201) rfl rfl U42 rfl fct37 (by simp) (by dsimp only [List.drop, List.take] <;> rfl) .nil) fun Az Hz => ?_
  refine plz (e_litR Hz m131 202 (mm := 5) rfl (.cons rfl rfl (.cons (.v _) (.cons (.v _) (.cons (.v _) (.cons (.v _) (.cons (m131.rd (i := 200) rfl) .nil))))) .nil) U55 fct44 rfl rfl rfl rfl rfl fun g170 Az w171 Hz m171 => ?_)
  have m173 := m171.freezeR 202 rfl
  refine plz (e_appR Hz m173 25 rfl rfl rfl (m173.rd (i := 202) rfl) U55 fct44 rfl rfl (by decide) (by simp; omega) rfl fun p172 c172 Az w174 Hz m174 => ?_)
  refine gz hK11 Hz (.move rfl <| .assign rfl <| .assign rfl <| .nil) fun Az Hz => ?_
  replace Hz := Hz.oz [1, 5, 6, 8, 9, 10, 80]
  refine wp_region_lit ?_
  refine goCh Hz (.move rfl <| .add rfl rfl (IntWalk.i64_in _ (by omega)) <| .assign rfl .nil) fun Az Hz => ?_
  refine wpList_nil ?_
  show ∃ n', n' < _ ∧ _
  have hE : (Ls.map (stR y)) ++ [[D.v (.int .i64 y.bl), .v (.int .i64 y.sz), .v (.int .i64 t9), .v (.int .i64 (un : Int)), .l 2 ((selI (stL y.bl y.sz y.ws un) (chgB y t9 (un : Int)) y.bl.toNat).map itD)]] = ((Ls ++ [(t9, un)]).map (stR y)) := by rw [List.map_append, List.map_singleton, stR_since (by omega)]
  rw [hE] at m174 Hz
  exact ⟨l2.length - (i + 1), by omega, i + 1, _, _, _, _, _, _, _, _, _, _, _, Ls ++ [(t9, un)], (un : Int), by omega, rfl, by rw [List.length_append, hLs]; rfl, hch.snoc ⟨by omega, by omega⟩ (by omega) (by omega) (fun e => by rw [e] at hLs; simp at hLs; omega) hlast, ⟨by omega, by omega⟩, (fun z hz => last_snoc hz), Hz.only [1, 5, 6, 8, 9, 10], m174.ren [(20, 20), (21, 21), (22, 22), (23, 23), (24, 24), (25, 25)] (by decide)⟩
 intro hb94 Hz; try simp only [QQ, Qax] at hb94
 refine wcf Hz ?_
 refine wp_exit ?_
 refine hK9 _ _ ?_
 refine zsr fun K17 hK17 => ?_
 refine goCh Hz (.move rfl .nil) fun Az Hz => ?_
 have m184 := m89.freezeR 25 rfl
 refine plz (ecl Hz Tryz.func22 rfl (eall_x _ y n hS hn Ls _ _ _ _ hch (by omega) (by omega) (m184.into [(1, 25)] (by decide) rfl)) ?_)
 rintro e w185 ⟨z, p185, n185, c185, hz, rfl, hm185⟩
 have mx185 := m184.back hm185 [(200, 9)] (by decide); clear hm185 m184
 have m185 := mx185.oz [200, 20, 21, 22, 23, 24]
 refine ⟨_, rfl, ?_⟩; intro Az Hz
 have htn := hlast z hz
 obtain ⟨S, hS9⟩ : ∃ S, stL y.bl y.sz y.ws z.2 = S := ⟨_, rfl⟩
 obtain ⟨hSl, hso9⟩ := whole_at hS hn hS9 (by have := (hch _ _ hz).1; omega)
 rw [hS9] at m185
 refine goCh Hz (.move rfl <| .extract rfl rfl <| .extract rfl rfl .nil) fun Az Hz => ?_
 refine plz (e_alloc Hz m185 201 fct38 rfl fun g190 Az w191 Hz m191 _ _ => ?_)
 refine plz (stw Hz m191 201 fct37 fun w192 m192 _ => ?_)
 refine gz hK17 Hz (.assign rfl .nil) fun Az Hz => ?_
 replace Hz := Hz.oz [1, 5, 6, 8, 9, 10, 14, 15]
 refine zsr fun K18 hK18 => ?_
 refine goCh Hz (.loadBR m192 (i := 20) rfl rfl U33 rfl fct1 (by simp) (by dsimp only [List.drop, List.take] <;> rfl) <| .move rfl .nil) fun Az Hz => ?_
 refine plz (ecl Hz Tryz.func23 rfl (rstate_q _ y hF hS.1.its.1 _ _ _ _ _ _ _ _ _ z.2 htn _ (fun b hb => (List.not_mem_nil (a := b)) hb) (by omega) (by omega) (m192.into [(3, 23)] (by decide) rfl)) ?_)
 rintro e w199 ⟨p199, c199, rfl, hm199⟩
 have mx199 := m192.back hm199 [(23, 3), (202, 9)] (by decide); clear hm199 m192
 have m199 := mx199.oz [23, 202, 20, 21, 22, 24, 200, 201]
 refine ⟨_, rfl, ?_⟩; intro Az Hz
 rw [hS9] at m199 Hz
 refine gz hK18 Hz (.move rfl <| .extract rfl rfl <| .extract rfl rfl <| .assign rfl <| .assign rfl <| .nil) fun Az Hz => ?_
 replace Hz := Hz.oz [1, 5, 6, 8, 9, 10, 14, 15, 16, 17]
 refine zsr fun K19 hK19 => ?_
 refine goCh Hz (.move rfl <| .eql rfl rfl <| .move rfl .nil) fun Az Hz => ?_
 refine bc Hz 108 ?_ ?_
 rotate_left
 · intro hb _; exact absurd hb (by simp)
 clear Hz; intro _ Hz
 refine goCh Hz (.moveZ rfl <| .eqlZ rfl rfl <| .pickT rfl rfl <| .move rfl .nil) fun Az Hz => ?_
 refine bc Hz 112 ?_ ?_
 rotate_left
 · intro hb _; exact absurd hb (by simp)
 clear Hz; intro _ Hz
 refine goCh Hz (.loadBRZ m199 (i := 201) rfl rfl U42 rfl fct37 (by simp) (by dsimp only [List.drop, List.take] <;> rfl) .nil) fun Az Hz => ?_
 refine stz Hz (ecl Hz Tryz.func25 rfl (eblocks_n _ _ _ _ _ S _ _ _ _ _ (by omega) hso9 rfl (m199.into [(3, 200)] (by decide) rfl)) ?_)
 rintro e w220 ⟨p220, c220, rfl, hm220⟩
 have mx220 := m199.back hm220 [(203, 9)] (by decide); clear hm220 m199
 have m220 := mx220.oz [203, 20, 21, 22, 23, 24, 201, 202]
 refine ⟨_, rfl, ?_⟩; intro Az Hz
 refine goCh Hz (.moveZ rfl .nil) fun Az Hz => ?_
 refine stz Hz (ecb Hz Tryz.func24 rfl m220 (bodies_any S _ _ _ _ _ _ _ (m220.rd (i := 203) rfl).any (m220.rd (i := 202) rfl).any (by omega)) fun Az w223 Hz m224 => ?_)
 refine gz hK19 Hz (.pickT rfl rfl <| .assign rfl <| .nil) fun Az Hz => ?_
 refine rt1 Hz ?_
 exact ⟨by (first | rfl | simp), m224.below⟩
end Go.Proofs.YtamjnimaeecmoaaGreat.K
