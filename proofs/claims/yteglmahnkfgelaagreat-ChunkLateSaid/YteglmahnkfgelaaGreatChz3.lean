/- chunk: the reference's Apply of a right push. -/
import Derived.Test.YteglmahnkfgelaaGreatChz1
namespace Go.Proofs.YteglmahnkfgelaaGreat.K
open Go.ChangeShapes Go.WideShapes Go.ChangeAt Go.RowKit
set_option linter.unusedVariables false
set_option linter.unusedSimpArgs false
set_option maxRecDepth 100000
set_option maxHeartbeats 4000000
theorem zapply_x (X : Cx) (vo ch cn sz mk fl fr to fl2 : Int) (H : List (List Ver)) (W : List (Int × List (Int × List Int))) (p pw : Option Addr) (nn c nw cw : Nat) (w0 : World) (hok : HB 900000 H) (hH : (H.length : Int) = cn) (hP : PuOk vo ch cn sz fr to fl2 W) (hfm : fr ≤ mk) (m0 : MemOk X w0 [(1, .dat (.slice p nn c) (.l 1 (H.map hD))), (2, .dat (.slice pw nw cw) (.l 2 (W.map wrD)))] w0) :
   Calls Tryz.prog 18 #[.agg #[.int .i64 vo, .int .i64 ch, .int .i64 cn, .int .i64 sz, .int .i64 mk, .int .i64 fl, .slice p nn c], .agg #[.int .i64 vo, .int .i64 ch, .int .i64 cn, .int .i64 sz, .int .i64 fr, .int .i64 to, .int .i64 fl2, .slice pw nw cw]] w0 fun e w' => ∃ (p9 : Option Addr) (c9 : Nat), e = .returned (.agg #[.int .i64 vo, .int .i64 ch, .int .i64 cn, .int .i64 sz, .int .i64 (max mk to), .int .i64 (max fl fl2), .slice p9 nn c9]) ∧ MemOk X w0 [(1, .dat (.slice p nn c) (.l 1 (H.map hD))), (2, .dat (.slice pw nw cw) (.l 2 (W.map wrD))), (9, .row (.slice p9 nn c9) 94 1 (((applyW mk H W).map (fun h => pruneF h (max fl fl2))).map hD))] w' := by
 refine ent2 Tryz.func18 rfl Tryz.ntmps18 fun Az Hz => ?_
 have hl : H.length ≤ 1000000 := by have := hP.1.2.2.1; omega
 have hWl := hP.2.2.2.2.1
 have hnn : nn = H.length := nnOf (m0.rd (i := 1) rfl)
 have hnw : nw = W.length := nnOf (m0.rd (i := 2) rfl)
 revert Hz
 subst hnn; subst hnw
 intro Hz
 refine zsr fun K0 hK0 => ?_
 refine plz (e_box Hz m0 30 (cs := [_, _, _, _, _, _, _]) rfl rfl rfl fun g1 Az w2 Hz m2 _ _ => ?_)
 refine plz (e_box Hz m2 31 (cs := [_, _, _, _, _, _, _, _]) rfl rfl rfl fun g3 Az w4 Hz m4 _ _ => ?_)
 refine plz (e_alloc Hz m4 32 fct6 rfl fun g5 Az w6 Hz m6 _ _ => ?_)
 refine znl (hK0 _ _ ?_)
 refine wsk fun K1 hK1 => ?_
 refine zsr fun K2 hK2 => ?_
 refine goCh Hz (.loadBR m6 (i := 31) rfl rfl U25 rfl fct7 (by simp) (by dsimp only [List.drop, List.take] <;> rfl) .nil) fun Az Hz => ?_
 refine plz (ecl Hz Tryz.func15 rfl (zpright_x _ vo ch cn sz fr to fl2 W _ _ _ _ hP (m6.into [(1, 2)] (by decide) rfl)) ?_)
 rintro e w9 ⟨rfl, hm9⟩
 have mx9 := m6.back hm9 [(2, 1)] (by decide); clear hm9 m6
 have m9 := mx9.oz [2, 1, 30, 31, 32]
 refine ⟨_, rfl, ?_⟩; intro Az Hz
 refine goCh Hz (.not rfl <| .move rfl <| .faZ 0 rfl U39 <| .loadB1Z m9 (i := 30) rfl rfl rfl U3 rfl <| .faZ 0 rfl U25 <| .loadB1Z m9 (i := 31) rfl rfl rfl U3 rfl <| .neqZ rfl rfl <| .pickF rfl rfl <| .move rfl .nil) fun Az Hz => ?_
 refine bc Hz 21 ?_ ?_
 · intro hb _; exact absurd hb (by first | (simp; done) | (simp; omega))
 clear Hz; intro _ Hz
 refine goCh Hz (.faZ 1 rfl U39 <| .loadB1Z m9 (i := 30) rfl rfl rfl U3 rfl <| .faZ 1 rfl U25 <| .loadB1Z m9 (i := 31) rfl rfl rfl U3 rfl <| .neqZ rfl rfl <| .pickF rfl rfl <| .move rfl .nil) fun Az Hz => ?_
 refine bc Hz 28 ?_ ?_
 · intro hb _; exact absurd hb (by first | (simp; done) | (simp; omega))
 clear Hz; intro _ Hz
 refine goCh Hz (.faZ 2 rfl U39 <| .loadB1Z m9 (i := 30) rfl rfl rfl U3 rfl <| .faZ 2 rfl U25 <| .loadB1Z m9 (i := 31) rfl rfl rfl U3 rfl <| .neqZ rfl rfl <| .pickF rfl rfl <| .move rfl .nil) fun Az Hz => ?_
 refine bc Hz 35 ?_ ?_
 · intro hb _; exact absurd hb (by first | (simp; done) | (simp; omega))
 clear Hz; intro _ Hz
 refine goCh Hz (.faZ 3 rfl U39 <| .loadB1Z m9 (i := 30) rfl rfl rfl U3 rfl <| .faZ 3 rfl U25 <| .loadB1Z m9 (i := 31) rfl rfl rfl U3 rfl <| .neqZ rfl rfl <| .pickF rfl rfl <| .move rfl .nil) fun Az Hz => ?_
 refine bc Hz 42 ?_ ?_
 · intro hb _; exact absurd hb (by first | (simp; done) | (simp; omega))
 clear Hz; intro _ Hz
 refine gz hK2 Hz (.faZ 4 rfl U39 <| .loadB1Z m9 (i := 30) rfl rfl rfl U2 rfl <| .faZ 4 rfl U25 <| .loadB1Z m9 (i := 31) rfl rfl rfl U2 rfl <| .lssZ rfl rfl <| .pickF rfl rfl <| .nil) fun Az Hz => ?_
 refine bc Hz 48 ?_ ?_
 · intro hb _; exact absurd hb (by first | (simp; done) | (simp; omega))
 clear Hz; intro _ Hz
 refine wcf Hz ?_
 refine zss (hK1 _ _ ?_)
 replace Hz := Hz.oz [2, 3, 4, 39]
 refine zsr fun K3 hK3 => ?_
 refine goCh Hz (.fa 6 rfl U39 <| .lb m9 30 U37 rfl rfl rfl .nil) fun Az Hz => ?_
 have m57 := m9.nilR 33 94 1
 refine plz (e_appR Hz m57 33 rfl rfl rfl (m57.rd (i := 1) rfl) U37 fct3 rfl rfl (by decide) (by simp only [List.length_append, List.length_nil, List.length_map, List.length_cons]; omega) rfl fun p58 c58 Az w59 Hz m59 => ?_)
 refine gz hK3 Hz (.assign rfl .nil) fun Az Hz => ?_
 refine wsk fun K4 hK4 => ?_
 refine regS Hz (.assign rfl .nil) fun Az Hz => ?_
 refine wp_block ?_
 refine wp_loop_ghost (fun g a w => ∃ (k gA gB gR : Nat) (Hk : List (List Ver)) (p9 : Option Addr) (c9 : Nat), k ≤ W.length ∧ g = W.length - k ∧ Hk = applyW mk H (W.take k) ∧ HB (900000 + 8 * k) Hk ∧ Has 132 [(2, .pointer (some ⟨gA, 0, none⟩)), (3, .pointer (some ⟨gB, 0, none⟩)), (4, .pointer (some ⟨gR, 0, none⟩)), (5, .slice p9 H.length c9), (6, .int .i64 k)] a ∧ MemOk X w0 [(1, .dat (.slice p H.length c) (.l 1 (H.map hD))), (2, .dat (.slice pw W.length cw) (.l 2 (W.map wrD))), (9, .row (.slice p9 H.length c9) 94 1 (Hk.map hD)), (10, .box gA 39 [.int .i64 vo, .int .i64 ch, .int .i64 cn, .int .i64 sz, .int .i64 mk, .int .i64 fl, .slice p H.length c]), (11, .box gB 25 [.int .i64 vo, .int .i64 ch, .int .i64 cn, .int .i64 sz, .int .i64 fr, .int .i64 to, .int .i64 fl2, .slice pw W.length cw]), (12, .box gR 39 [.int .i64 0, .int .i64 0, .int .i64 0, .int .i64 0, .int .i64 0, .int .i64 0, .slice none 0 0])] w) (W.length) ?_ ?_
 · simp only [List.nil_append, List.length_nil, List.length_append, List.length_map, Nat.zero_add] at m59 Hz
   exact ⟨0, _, _, _, H, _, _, Nat.zero_le _, rfl, rfl, hok.up (by omega), Hz.only [2, 3, 4, 5, 6], m59.ren [(1, 1), (2, 2), (9, 33), (10, 30), (11, 31), (12, 32)] (by decide)⟩
 clear Hz m59
 rintro g Az w62 ⟨k, gA, gB, gR, Hk, p9, c9, hkl, hg, hHk, hHB, Hz, m62⟩
 refine wsk fun K5 hK5 => ?_
 refine regS Hz (.move rfl <| .fa 7 rfl U25 <| .lb m62 11 U23 rfl rfl rfl <| .len rfl U23 <| .lss rfl rfl .nil) fun Az Hz => ?_
 refine bc Hz 57 ?_ ?_
 ·
  intro hb68 Hz; try simp only [QQ, Qax] at hb68
  have hk : k < W.length := by have := hb68; first | omega | (simp at this; omega)
  obtain ⟨⟨xs, xl⟩, hes⟩ : ∃ e, W[k]? = some e := ⟨_, List.getElem?_eq_getElem hk⟩
  have hit : ∀ {j : Nat} {xb : Int} {xd : List Int}, xl[j]? = some (xb, xd) → (0 ≤ xb ∧ xb < cn) ∧ (xd.length ≤ 32 ∧ xl.length ≤ 8) := fun h7 => wpre_at hP hes h7
  have hx8 : xl.length ≤ 8 := wpre_8 hP hes
  have hml : (xl.map itD).length = xl.length := List.length_map _
  refine wct Hz ?_
  refine zss (hK5 _ _ ?_)
  refine wsk fun K6 hK6 => ?_
  refine wp_block ?_
  refine zsr fun K7 hK7 => ?_
  refine goCh Hz (.fa 7 rfl U25 <| .lb m62 11 U23 rfl rfl rfl <| .move rfl .nil) fun Az Hz => ?_
  obtain ⟨b76, o76, vs76, hp76, hR76, ho76, m76⟩ := m62.openR (i := 2) rfl (k) (r := [.v (.int .i64 xs), .l 2 (xl.map itD)]) (wrD_get hes) 100 rfl
  revert Hz
  cases hp76; clear m62 ho76
  rcases hR76 with _ | ⟨hd76_0, _ | ⟨hd76_1, _ | _⟩⟩
  obtain rfl := hd76_0.v_out
  clear hd76_0
  obtain ⟨p77, c77, hv77, hc77⟩ := hd76_1.l_shape; subst hv77
  intro Hz
  have m77 := m76.dat 101 rfl (hd76_1.cast (fun _ h => (free_add rfl h))); clear m76 hd76_1
  refine goCh Hz (.c rfl (fun _ h_ => y_idx h_ rfl rfl U23 fct8 (k) rfl hk) <| .loadCR m77 (i := 100) rfl rfl U30 rfl fct8 .nil) fun Az Hz => ?_
  refine plz (e_alloc Hz m77 102 fct9 rfl fun g80 Az w81 Hz m81 _ _ => ?_)
  refine plz (stw Hz m81 102 fct8 fun w82 m82 _ => ?_)
  refine znl (hK7 _ _ ?_)
  replace Hz := Hz.oz [2, 3, 4, 5, 6, 7]
  refine regS Hz (.assign rfl .nil) fun Az Hz => ?_
  refine wp_block ?_
  refine wp_loop_ghost (fun g a w => ∃ (j gA gB gR gW : Nat) (L2 : List (List Ver)) (p9 : Option Addr) (c9 : Nat) (px : Option Addr) (cx : Nat), j ≤ xl.length ∧ g = xl.length - j ∧ L2 = addW xs Hk (xl.take j) ∧ (xs ≤ mk → j = 0) ∧ L2.length = H.length ∧ HB (900000 + 8 * k + j) L2 ∧ Has 132 [(2, .pointer (some ⟨gA, 0, none⟩)), (3, .pointer (some ⟨gB, 0, none⟩)), (4, .pointer (some ⟨gR, 0, none⟩)), (5, .slice p9 H.length c9), (6, .int .i64 k), (7, .pointer (some ⟨gW, 0, none⟩)), (8, .int .i64 j)] a ∧ MemOk X w0 [(1, .dat (.slice p H.length c) (.l 1 (H.map hD))), (2, .dat (.slice (some ⟨b76, o76, none⟩) W.length cw) (.l 2 (W.map wrD))), (9, .row (.slice p9 H.length c9) 94 1 (L2.map hD)), (10, .box gA 39 [.int .i64 vo, .int .i64 ch, .int .i64 cn, .int .i64 sz, .int .i64 mk, .int .i64 fl, .slice p H.length c]), (11, .box gB 25 [.int .i64 vo, .int .i64 ch, .int .i64 cn, .int .i64 sz, .int .i64 fr, .int .i64 to, .int .i64 fl2, .slice (some ⟨b76, o76, none⟩) W.length cw]), (12, .box gR 39 [.int .i64 0, .int .i64 0, .int .i64 0, .int .i64 0, .int .i64 0, .int .i64 0, .slice none 0 0]), (13, .box gW 30 [.int .i64 xs, .slice px (xl.map itD).length cx]), (14, .dat (.slice px (xl.map itD).length cx) (.l 2 (xl.map itD)))] w) (xl.length) ?_ ?_
  · exact ⟨0, _, _, _, _, Hk, _, _, _, _, Nat.zero_le _, rfl, rfl, fun _ => rfl, by rw [hHk, applyW_len], hHB, Hz.only [2, 3, 4, 5, 6, 7, 8], m82.ren [(1, 1), (2, 2), (9, 9), (10, 10), (11, 11), (12, 12), (13, 102), (14, 101)] (by decide)⟩
  clear Hz m82
  rintro g Az w85 ⟨j, gA, gB, gR, gW, L2, p9, c9, px, cx, hjl, hg2, hL2, hj0, hLl, hLB, Hz, m85⟩
  refine wsk fun K8 hK8 => ?_
  refine zsr fun K9 hK9 => ?_
  refine goCh Hz (.move rfl <| .fa 1 rfl U30 <| .lb m85 13 U28 rfl rfl rfl <| .len rfl U28 <| .lss rfl rfl <| .move rfl .nil) fun Az Hz => ?_
  refine bc Hz 70 ?_ ?_
  ·
   intro hb98 Hz; try simp only [QQ, Qax] at hb98
   have hj : j < xl.length := by have := hb98; first | (rw [List.length_map] at this; omega) | (simp at this; omega)
   refine gz hK9 Hz (.faZ 0 rfl U30 <| .loadB1Z m85 (i := 13) rfl rfl rfl U2 rfl <| .faZ 4 rfl U39 <| .loadB1Z m85 (i := 10) rfl rfl rfl U2 rfl <| .gtrZ rfl rfl <| .pickT rfl rfl <| .nil) fun Az Hz => ?_
   refine bc Hz 76 ?_ ?_
   ·
    intro hb105 Hz; try simp only [QQ, Qax] at hb105
    have hgt : mk < xs := by have := hb105; first | omega | (simp at this; omega)
    obtain ⟨⟨xb, xd⟩, hxs⟩ : ∃ e, xl[j]? = some e := ⟨_, List.getElem?_eq_getElem hj⟩
    have hxb := (hit hxs).1
    have hxd : xd.length ≤ 1000000 := by have := (hit hxs).2; omega
    obtain ⟨h9, hes9⟩ : ∃ e, L2[xb.toNat]? = some e := ⟨_, List.getElem?_eq_getElem (by omega)⟩
    have hx9 : L2.getD xb.toNat [] = h9 := by rw [List.getD, hes9]; rfl
    have hh9 := hLB.at (List.mem_of_getElem? hes9)
    refine wct Hz ?_
    refine zss (hK8 _ _ ?_)
    refine wsk fun K10 hK10 => ?_
    refine wp_block ?_
    replace Hz := Hz.oz [2, 3, 4, 5, 6, 7, 8]
    refine zsr fun K11 hK11 => ?_
    refine goCh Hz (.fa 1 rfl U30 <| .lb m85 13 U28 rfl rfl rfl <| .move rfl .nil) fun Az Hz => ?_
    obtain ⟨b114, o114, vs114, hp114, hR114, ho114, m114⟩ := m85.openR (i := 14) rfl (j) (r := [.v (.int .i64 xb), .ns .u8 xd]) (itD_get hxs) 200 rfl
    revert Hz
    cases hp114; clear m85 ho114
    rcases hR114 with _ | ⟨hd114_0, _ | ⟨hd114_1, _ | _⟩⟩
    obtain rfl := hd114_0.v_out
    clear hd114_0
    obtain ⟨p115, c115, hv115, hc115⟩ := hd114_1.ns_shape; subst hv115
    intro Hz
    have m115 := m114.dat 201 rfl (hd114_1.cast (fun _ h => (free_add rfl h))); clear m114 hd114_1
    refine gz hK11 Hz (.c rfl (fun _ h_ => y_idx h_ rfl rfl U28 fct25 (j) rfl (by rw [List.length_map]; omega)) <| .fieldAddrQ 0 rfl U78 rfl (s := 0) (by kernel_rfl) rfl <| .loadC0 m115 (i := 200) rfl rfl U3 rfl <| .assign rfl <| .nil) fun Az Hz => ?_
    replace Hz := Hz.oz [2, 3, 4, 5, 6, 7, 8, 9]
    obtain ⟨gr122, cr122, hp122, m122⟩ := m115.openC (i := 9) rfl (Nat.lt_of_le_of_lt (Nat.zero_le (xb.toNat)) (by first | omega | (rw [List.length_map]; omega)))
    revert Hz
    cases hp122
    intro Hz
    obtain ⟨vs123, hc123, hR123⟩ := m122.eltC (i := 9) rfl (xb.toNat) (r := [.l 2 (h9.map itD)]) (hD_get hes9)
    revert Hz
    rcases hR123 with _ | ⟨hd123_0, _ | _⟩
    obtain ⟨p124, c124, hv124, hw124⟩ := hd123_0.l_shape; subst hv124
    intro Hz
    have m124 := m122.dat 202 rfl (hd123_0.cast (fun _ h => h)); clear m122 hd123_0
    obtain ⟨b125, o125, vs125, hp125, hR125, ho125, m125⟩ := m124.openR (i := 14) rfl (j) (r := [.v (.int .i64 xb), .ns .u8 xd]) (itD_get hxs) 203 rfl
    revert Hz
    cases hp125; clear m124 ho125
    rcases hR125 with _ | ⟨hd125_0, _ | ⟨hd125_1, _ | _⟩⟩
    obtain rfl := hd125_0.v_out
    clear hd125_0
    obtain ⟨p126, c126, hv126, hc126⟩ := hd125_1.ns_shape; subst hv126
    intro Hz
    have m126 := m125.dat 204 rfl (hd125_1.cast (fun _ h => (free_add rfl h))); clear m125 hd125_1
    have m127 := m126.oz [1, 2, 9, 10, 11, 12, 13, 14, 200, 201, 202, 203, 204]
    refine region_p 16 (B := [(1, _), (2, _), (9, _), (10, _), (11, _), (12, _), (13, _), (14, _), (200, _), (201, _), (202, _), (203, _), (204, _)]) (m127.to ⟨il, il, il, il, il, il, il, il, il, il, il, il, il, trivial⟩) m127 (by kernel_rfl) (fun w128 hP128 m128 => ?_); clear m127
    refine goR hP128 [0, 1, 2, 3, 4, 5, 6, 7, 8, 9, 10, 11, 12, 13] [5, 7, 9, 13] 14 0 16383 Hz (m128.to ⟨il, il, il, il, il, il, il, il, il, il, il, il, il, trivial⟩) (.move rfl <| .move rfl <| .move rfl <| .move rfl <| .p (fun _ _ h_ => y_idx h_ rfl rfl U37 fct12 (xb.toNat) (Int.toNat_of_nonneg hxb.1).symm (by first | omega | (rw [List.length_map]; omega))) <| .c (fun _ hW _ h_ => y_loadRC1 h_ hW (i := 9) rfl (xb.toNat) hc123 rfl U94 rfl) <| .fa 0 rfl U30 <| .lb hh 13 U2 rfl rfl rfl <| .fa 1 rfl U30 <| .lb hh 13 U28 rfl rfl rfl <| .move rfl <| .p (fun _ _ h_ => y_idx h_ rfl rfl U28 fct25 (j) rfl (by rw [List.length_map]; omega)) <| .fieldAddrQ 1 rfl U78 rfl (s := 0) (by kernel_rfl) rfl <| .loadC1 hh (i := 203) (q := 1) rfl rfl rfl U22 rfl .nil) fun Az Hz => ?_
    refine so 14 ?_
    refine ecl Hz Tryz.func55 rfl (zadd_x _ h9 xs xd _ _ _ _ _ _ hh9.2.1 hxd (m128.into [(1, 202), (2, 204)] (by decide) rfl)) ?_
    rintro e w143 ⟨p143, c143, rfl, hm143⟩
    have mx143 := m128.back hm143 [(202, 1), (204, 2), (205, 9)] (by decide); clear hm143 m128
    have m143 := mx143.oz [202, 204, 205, 1, 2, 9, 10, 11, 12, 13, 14, 200, 201, 203]
    refine ⟨_, rfl, ?_⟩; intro Az Hz
    refine ⟨m143.to ⟨il, il, il, il, il, il, il, il, il, il, il, il, il, trivial⟩, ?_⟩
    refine goA hP128 [15] 1 32767 65535 Hz (m143.to ⟨il, il, il, il, il, il, il, il, il, il, il, il, il, trivial⟩) (.p (fun _ _ h_ => y_idx h_ rfl rfl U37 fct12 (xb.toNat) (Int.toNat_of_nonneg hxb.1).symm (by omega)) .nil) fun Az Hz => ?_
    have m146 := m143.closeC 9 rfl
    refine se 16 ?_
    refine e_storeR1 Hz m146 9 rfl (xb.toNat) (by rw [List.length_map]; omega) rfl rfl rfl rfl fct12 (m146.rd (i := 205) rfl) fun w147 m147 => ?_
    have hset : (L2.map hD).set xb.toNat [D.l 2 ((addF h9 xs xd).map itD)] = (L2.set xb.toNat (addF h9 xs xd)).map hD := by rw [List.map_set]; rfl
    rw [hset] at m147
    refine wpAnyE_done (by kernel_rfl) ?_ _
    refine hK10 _ _ ?_
    replace Hz := Hz.oz [2, 3, 4, 5, 6, 7, 8]
    refine wp_region_lit ?_
    refine goCh Hz (.move rfl <| .inc (j + 1) <| .assign rfl .nil) fun Az Hz => ?_
    refine wpList_nil ?_
    show ∃ n', n' < _ ∧ _
    exact ⟨xl.length - (j + 1), by omega, j + 1, _, _, _, _, L2.set xb.toNat (addF h9 xs xd), _, _, _, _, by omega, rfl, by rw [addW_snoc hxs, ← hL2, hx9], fun h8 => by omega, by rw [List.length_set]; exact hLl, hLB.set hh9.1 hxd (by omega), Hz.only [2, 3, 4, 5, 6, 7, 8], m147.ren [(1, 1), (2, 2), (9, 9), (10, 10), (11, 11), (12, 12), (13, 13), (14, 14)] (by decide)⟩
   intro hb105 Hz; try simp only [QQ, Qax] at hb105
   have hj9 : xs ≤ mk ∨ j = xl.length := .inl (by have := hb105; first | omega | (simp at this; omega))
   refine wcf Hz ?_
   refine wp_exit ?_
   refine hK6 _ _ ?_
   replace Hz := Hz.oz [2, 3, 4, 5, 6, 7, 8]
   refine wp_region_lit ?_
   refine goCh Hz (.move rfl <| .inc (k + 1) <| .assign rfl .nil) fun Az Hz => ?_
   refine wpList_nil ?_
   show ∃ n', n' < _ ∧ _
   have hstep : L2 = applyW mk H (W.take (k + 1)) := by
     rw [applyW_snoc hes, ← hHk]
     by_cases hle9 : xs ≤ mk
     · rw [if_pos hle9, hL2, hj0 hle9, List.take_zero]; rfl
     rw [if_neg hle9, hL2, hj9.resolve_left hle9, List.take_length]
   exact ⟨W.length - (k + 1), by omega, k + 1, _, _, _, L2, _, _, by omega, rfl, hstep, hLB.up (by omega), Hz.only [2, 3, 4, 5, 6], m85.ren [(1, 1), (2, 2), (9, 9), (10, 10), (11, 11), (12, 12)] (by decide)⟩
  intro hb98 Hz; try simp only [QQ, Qax] at hb98
  have hj9 : xs ≤ mk ∨ j = xl.length := .inr (by have := hb98; first | (rw [List.length_map] at this; omega) | (simp at this; omega))
  refine gz hK9 Hz (.sk <| .sk <| .sk <| .sk <| .sk <| .pickF rfl rfl <| .nil) fun Az Hz => ?_
  refine wcf Hz ?_
  refine wp_exit ?_
  refine hK6 _ _ ?_
  replace Hz := Hz.oz [2, 3, 4, 5, 6, 7, 8]
  refine wp_region_lit ?_
  refine goCh Hz (.move rfl <| .inc (k + 1) <| .assign rfl .nil) fun Az Hz => ?_
  refine wpList_nil ?_
  show ∃ n', n' < _ ∧ _
  have hstep : L2 = applyW mk H (W.take (k + 1)) := by
    rw [applyW_snoc hes, ← hHk]
    by_cases hle9 : xs ≤ mk
    · rw [if_pos hle9, hL2, hj0 hle9, List.take_zero]; rfl
    rw [if_neg hle9, hL2, hj9.resolve_left hle9, List.take_length]
  exact ⟨W.length - (k + 1), by omega, k + 1, _, _, _, L2, _, _, by omega, rfl, hstep, hLB.up (by omega), Hz.only [2, 3, 4, 5, 6], m85.ren [(1, 1), (2, 2), (9, 9), (10, 10), (11, 11), (12, 12)] (by decide)⟩
 intro hb68 Hz; try simp only [QQ, Qax] at hb68
 revert Hz
 obtain rfl : k = W.length := by have := hb68; first | omega | (simp at this; omega)
 intro Hz
 rw [List.take_length] at hHk
 have hfl : Hk.length = H.length := by rw [hHk, applyW_len]
 refine wcf Hz ?_
 refine wp_exit ?_
 refine hK4 _ _ ?_
 refine wsk fun K12 hK12 => ?_
 have m166 := m62.oz [1, 2, 9, 10, 11, 12]
 refine region_p 11 (B := [(1, _), (2, _), (9, _), (10, _), (11, _), (12, _)]) (m166.to ⟨il, il, il, il, il, il, trivial⟩) m166 (by kernel_rfl) (fun w167 hP167 m167 => ?_); clear m166
 refine goR hP167 [0, 1, 2, 3, 4, 5, 6, 7, 10] [1, 3, 6] 9 0 1279 Hz (m167.to ⟨il, il, il, il, il, il, trivial⟩) (.fa 4 rfl U39 <| .lb hh 10 U2 rfl rfl rfl <| .fa 5 rfl U25 <| .lb hh 11 U2 rfl rfl rfl <| .p (fun _ _ h_ => y_max h_ rfl rfl rfl) <| .fa 5 rfl U39 <| .lb hh 10 U2 rfl rfl rfl <| .fa 6 rfl U25 <| .fa 4 rfl U39 .nil) fun Az Hz => ?_
 refine dtw 8 11 ?_ ?_
 ·
  refine e_y Hz rfl (y_loadB1 Hz m167 (i := 11) rfl rfl rfl U2 rfl) fun Az Hz => ?_
  refine ⟨fun _ => (m167.to ⟨il, il, il, il, il, il, trivial⟩), ?_⟩
  refine goA hP167 [9] 1 1535 2047 Hz (m167.to ⟨il, il, il, il, il, il, trivial⟩) (.p (fun _ _ h_ => y_max h_ rfl rfl rfl) .nil) fun Az Hz => ?_
  refine se 11 ?_
  refine st1 Hz m167 10 fct22 fun w179 m179 _ => ?_
  refine goB hP167 [12] 1 4095 8191 Hz (.fa 5 rfl U39 .nil) fun Az Hz => ?_
  refine se 13 ?_
  refine st1 Hz m179 10 fct22 fun w181 m181 _ => ?_
  refine wpAnyE_done (by kernel_rfl) ?_ _
  refine hK12 _ _ ?_
  refine wsk fun K13 hK13 => ?_
  replace Hz := Hz.oz [2, 3, 4, 5, 6]
  refine regS Hz (.assign rfl .nil) fun Az Hz => ?_
  refine wp_block ?_
  refine wp_loop_ghost (fun g a w => ∃ (k gA gB gR : Nat) (L3 : List (List Ver)) (p9 : Option Addr) (c9 : Nat), k ≤ H.length ∧ g = H.length - k ∧ L3 = ((Hk.take k).map (fun h => pruneF h (max fl fl2)) ++ Hk.drop k) ∧ Has 132 [(2, .pointer (some ⟨gA, 0, none⟩)), (3, .pointer (some ⟨gB, 0, none⟩)), (4, .pointer (some ⟨gR, 0, none⟩)), (5, .slice p9 H.length c9), (10, .int .i64 k)] a ∧ MemOk X w0 [(1, .dat (.slice p H.length c) (.l 1 (H.map hD))), (2, .dat (.slice pw W.length cw) (.l 2 (W.map wrD))), (9, .row (.slice p9 H.length c9) 94 1 (L3.map hD)), (10, .box gA 39 [.int .i64 vo, .int .i64 ch, .int .i64 cn, .int .i64 sz, .int .i64 (max mk to), .int .i64 (max fl fl2), .slice p H.length c]), (11, .box gB 25 [.int .i64 vo, .int .i64 ch, .int .i64 cn, .int .i64 sz, .int .i64 fr, .int .i64 to, .int .i64 fl2, .slice pw W.length cw]), (12, .box gR 39 [.int .i64 0, .int .i64 0, .int .i64 0, .int .i64 0, .int .i64 0, .int .i64 0, .slice none 0 0])] w) (H.length) ?_ ?_
  · exact ⟨0, _, _, _, Hk, _, _, Nat.zero_le _, rfl, by simp, Hz.only [2, 3, 4, 5, 10], m181.ren [(1, 1), (2, 2), (9, 9), (10, 10), (11, 11), (12, 12)] (by decide)⟩
  clear Hz m181
  rintro g Az w184 ⟨k, gA, gB, gR, L3, p9, c9, hkl, hg3, hL3, Hz, m184⟩
  refine wsk fun K14 hK14 => ?_
  refine regS Hz (.move rfl <| .move rfl <| .len rfl U37 <| .lss rfl rfl .nil) fun Az Hz => ?_
  refine bc Hz 116 ?_ ?_
  ·
   intro hb189 Hz; try simp only [QQ, Qax] at hb189
   have hk : k < H.length := by have := hb189; first | omega | (simp at this; omega)
   obtain ⟨h9, hes⟩ : ∃ e, Hk[k]? = some e := ⟨_, List.getElem?_eq_getElem (by omega)⟩
   have hes9 : L3[k]? = some h9 := by rw [hL3]; exact prune_at hes
   have hLl : L3.length = H.length := by rw [hL3, List.length_append, List.length_map, List.length_take, List.length_drop]; omega
   have hh9 := hHB.at (List.mem_of_getElem? hes)
   refine wct Hz ?_
   refine zss (hK14 _ _ ?_)
   refine wsk fun K15 hK15 => ?_
   refine wp_block ?_
   obtain ⟨gr191, cr191, hp191, m191⟩ := m184.openC (i := 9) rfl (Nat.lt_of_le_of_lt (Nat.zero_le (k)) (by first | omega | (rw [List.length_map]; omega)))
   revert Hz
   cases hp191
   intro Hz
   obtain ⟨vs192, hc192, hR192⟩ := m191.eltC (i := 9) rfl (k) (r := [.l 2 (h9.map itD)]) (hD_get hes9)
   revert Hz
   rcases hR192 with _ | ⟨hd192_0, _ | _⟩
   obtain ⟨p193, c193, hv193, hw193⟩ := hd192_0.l_shape; subst hv193
   intro Hz
   have m193 := m191.dat 200 rfl (hd192_0.cast (fun _ h => h)); clear m191 hd192_0
   have m194 := m193.oz [1, 2, 9, 10, 11, 12, 200]
   refine region_p 10 (B := [(1, _), (2, _), (9, _), (10, _), (11, _), (12, _), (200, _)]) (m194.to ⟨il, il, il, il, il, il, il, trivial⟩) m194 (by kernel_rfl) (fun w195 hP195 m195 => ?_); clear m194
   refine goR hP195 [0, 1, 2, 3, 4, 5, 6, 7] [5, 7] 8 0 255 Hz (m195.to ⟨il, il, il, il, il, il, il, trivial⟩) (.move rfl <| .move rfl <| .move rfl <| .move rfl <| .p (fun _ _ h_ => y_idx h_ rfl rfl U37 fct12 (k) rfl (by first | omega | (rw [List.length_map]; omega))) <| .c (fun _ hW _ h_ => y_loadRC1 h_ hW (i := 9) rfl (k) hc192 rfl U94 rfl) <| .fa 5 rfl U39 <| .lb hh 10 U2 rfl rfl rfl .nil) fun Az Hz => ?_
   refine so 8 ?_
   refine ecl Hz Tryz.func56 rfl (zprune_x _ h9 (max fl fl2) _ _ _ _ hh9.2.1 hh9.1 (m195.into [(1, 200)] (by decide) rfl)) ?_
   rintro e w204 ⟨p204, c204, rfl, hm204⟩
   have mx204 := m195.back hm204 [(200, 1), (201, 9)] (by decide); clear hm204 m195
   have m204 := mx204.oz [200, 201, 1, 2, 9, 10, 11, 12]
   refine ⟨_, rfl, ?_⟩; intro Az Hz
   refine ⟨m204.to ⟨il, il, il, il, il, il, il, trivial⟩, ?_⟩
   refine goA hP195 [9] 1 511 1023 Hz (m204.to ⟨il, il, il, il, il, il, il, trivial⟩) (.p (fun _ _ h_ => y_idx h_ rfl rfl U37 fct12 (k) rfl (by omega)) .nil) fun Az Hz => ?_
   have m207 := m204.closeC 9 rfl
   refine se 10 ?_
   refine e_storeR1 Hz m207 9 rfl (k) (by rw [List.length_map]; omega) rfl rfl rfl rfl fct12 (m207.rd (i := 201) rfl) fun w208 m208 => ?_
   have hset : (L3.map hD).set k [D.l 2 ((pruneF h9 (max fl fl2)).map itD)] = (L3.set k (pruneF h9 (max fl fl2))).map hD := by rw [List.map_set]; rfl
   rw [hset] at m208
   refine wpAnyE_done (by kernel_rfl) ?_ _
   refine hK15 _ _ ?_
   replace Hz := Hz.oz [2, 3, 4, 5, 10]
   refine wp_region_lit ?_
   refine goCh Hz (.move rfl <| .inc (k + 1) <| .assign rfl .nil) fun Az Hz => ?_
   refine wpList_nil ?_
   show ∃ n', n' < _ ∧ _
   have hstep : L3.set k (pruneF h9 (max fl fl2)) = ((Hk.take (k + 1)).map (fun h => pruneF h (max fl fl2)) ++ Hk.drop (k + 1)) := by rw [hL3]; exact prune_step hes
   exact ⟨H.length - (k + 1), by omega, k + 1, _, _, _, _, _, _, by omega, rfl, hstep, Hz.only [2, 3, 4, 5, 10], m208.ren [(1, 1), (2, 2), (9, 9), (10, 10), (11, 11), (12, 12)] (by decide)⟩
  intro hb189 Hz; try simp only [QQ, Qax] at hb189
  revert Hz
  obtain rfl : k = H.length := by have := hb189; first | omega | (simp at this; omega)
  intro Hz
  refine wcf Hz ?_
  refine wp_exit ?_
  refine hK13 _ _ ?_
  refine zsr fun K16 hK16 => ?_
  refine goCh Hz (.move rfl <| .fa 6 rfl U39 .nil) fun Az Hz => ?_
  refine plz (st1 Hz m184 10 fct4 fun w217 m217 _ => ?_)
  refine znl (hK16 _ _ ?_)
  replace Hz := Hz.oz [2, 3, 4, 5, 10]
  refine zsr fun K17 hK17 => ?_
  refine goCh Hz (.loadBR m217 (i := 10) rfl rfl U39 rfl fct5 (by simp) (by dsimp only [List.drop, List.take] <;> rfl) .nil) fun Az Hz => ?_
  refine plz (stw Hz m217 12 fct5 fun w221 m221 _ => ?_)
  refine znl (hK17 _ _ ?_)
  refine rtd (retC (fn := Tryz.f18) Hz m221 (i := 12) rfl rfl rfl U39 rfl fct5 ?_)
  have hend : L3 = Hk.map (fun h => pruneF h (max fl fl2)) := by rw [hL3, ← hfl, List.take_length, List.drop_length, List.append_nil]
  rw [hend, hHk] at m221
  exact ⟨_, _, rfl, m221.ren [(1, 1), (2, 2), (9, 9)] (by decide)⟩
 refine st1 Hz m167 10 fct22 fun w222 m222 _ => ?_
 refine ⟨fun h => (Bool.false_ne_true (h.symm.trans (by rfl))).elim, ?_⟩
 refine se 8 ?_
 refine e_y Hz rfl (y_loadB1 Hz m222 (i := 11) rfl rfl rfl U2 rfl) fun Az Hz => ?_
 refine goB hP167 [9, 12] 2 3583 8191 Hz (.p (fun _ _ h_ => y_max h_ rfl rfl rfl) <| .fa 5 rfl U39 .nil) fun Az Hz => ?_
 refine se 13 ?_
 refine st1 Hz m222 10 fct22 fun w226 m226 _ => ?_
 refine wpAnyE_done (by kernel_rfl) ?_ _
 refine hK12 _ _ ?_
 refine wsk fun K18 hK18 => ?_
 replace Hz := Hz.oz [2, 3, 4, 5, 6]
 refine regS Hz (.assign rfl .nil) fun Az Hz => ?_
 refine wp_block ?_
 refine wp_loop_ghost (fun g a w => ∃ (k gA gB gR : Nat) (L3 : List (List Ver)) (p9 : Option Addr) (c9 : Nat), k ≤ H.length ∧ g = H.length - k ∧ L3 = ((Hk.take k).map (fun h => pruneF h (max fl fl2)) ++ Hk.drop k) ∧ Has 132 [(2, .pointer (some ⟨gA, 0, none⟩)), (3, .pointer (some ⟨gB, 0, none⟩)), (4, .pointer (some ⟨gR, 0, none⟩)), (5, .slice p9 H.length c9), (10, .int .i64 k)] a ∧ MemOk X w0 [(1, .dat (.slice p H.length c) (.l 1 (H.map hD))), (2, .dat (.slice pw W.length cw) (.l 2 (W.map wrD))), (9, .row (.slice p9 H.length c9) 94 1 (L3.map hD)), (10, .box gA 39 [.int .i64 vo, .int .i64 ch, .int .i64 cn, .int .i64 sz, .int .i64 (max mk to), .int .i64 (max fl fl2), .slice p H.length c]), (11, .box gB 25 [.int .i64 vo, .int .i64 ch, .int .i64 cn, .int .i64 sz, .int .i64 fr, .int .i64 to, .int .i64 fl2, .slice pw W.length cw]), (12, .box gR 39 [.int .i64 0, .int .i64 0, .int .i64 0, .int .i64 0, .int .i64 0, .int .i64 0, .slice none 0 0])] w) (H.length) ?_ ?_
 · exact ⟨0, _, _, _, Hk, _, _, Nat.zero_le _, rfl, by simp, Hz.only [2, 3, 4, 5, 10], m226.ren [(1, 1), (2, 2), (9, 9), (10, 10), (11, 11), (12, 12)] (by decide)⟩
 clear Hz m226
 rintro g Az w229 ⟨k, gA, gB, gR, L3, p9, c9, hkl, hg3, hL3, Hz, m229⟩
 refine wsk fun K19 hK19 => ?_
 refine regS Hz (.move rfl <| .move rfl <| .len rfl U37 <| .lss rfl rfl .nil) fun Az Hz => ?_
 refine bc Hz 116 ?_ ?_
 ·
  intro hb234 Hz; try simp only [QQ, Qax] at hb234
  have hk : k < H.length := by have := hb234; first | omega | (simp at this; omega)
  obtain ⟨h9, hes⟩ : ∃ e, Hk[k]? = some e := ⟨_, List.getElem?_eq_getElem (by omega)⟩
  have hes9 : L3[k]? = some h9 := by rw [hL3]; exact prune_at hes
  have hLl : L3.length = H.length := by rw [hL3, List.length_append, List.length_map, List.length_take, List.length_drop]; omega
  have hh9 := hHB.at (List.mem_of_getElem? hes)
  refine wct Hz ?_
  refine zss (hK19 _ _ ?_)
  refine wsk fun K20 hK20 => ?_
  refine wp_block ?_
  obtain ⟨gr236, cr236, hp236, m236⟩ := m229.openC (i := 9) rfl (Nat.lt_of_le_of_lt (Nat.zero_le (k)) (by first | omega | (rw [List.length_map]; omega)))
  revert Hz
  cases hp236
  intro Hz
  obtain ⟨vs237, hc237, hR237⟩ := m236.eltC (i := 9) rfl (k) (r := [.l 2 (h9.map itD)]) (hD_get hes9)
  revert Hz
  rcases hR237 with _ | ⟨hd237_0, _ | _⟩
  obtain ⟨p238, c238, hv238, hw238⟩ := hd237_0.l_shape; subst hv238
  intro Hz
  have m238 := m236.dat 200 rfl (hd237_0.cast (fun _ h => h)); clear m236 hd237_0
  have m239 := m238.oz [1, 2, 9, 10, 11, 12, 200]
  refine region_p 10 (B := [(1, _), (2, _), (9, _), (10, _), (11, _), (12, _), (200, _)]) (m239.to ⟨il, il, il, il, il, il, il, trivial⟩) m239 (by kernel_rfl) (fun w240 hP240 m240 => ?_); clear m239
  refine goR hP240 [0, 1, 2, 3, 4, 5, 6, 7] [5, 7] 8 0 255 Hz (m240.to ⟨il, il, il, il, il, il, il, trivial⟩) (.move rfl <| .move rfl <| .move rfl <| .move rfl <| .p (fun _ _ h_ => y_idx h_ rfl rfl U37 fct12 (k) rfl (by first | omega | (rw [List.length_map]; omega))) <| .c (fun _ hW _ h_ => y_loadRC1 h_ hW (i := 9) rfl (k) hc237 rfl U94 rfl) <| .fa 5 rfl U39 <| .lb hh 10 U2 rfl rfl rfl .nil) fun Az Hz => ?_
  refine so 8 ?_
  refine ecl Hz Tryz.func56 rfl (zprune_x _ h9 (max fl fl2) _ _ _ _ hh9.2.1 hh9.1 (m240.into [(1, 200)] (by decide) rfl)) ?_
  rintro e w249 ⟨p249, c249, rfl, hm249⟩
  have mx249 := m240.back hm249 [(200, 1), (201, 9)] (by decide); clear hm249 m240
  have m249 := mx249.oz [200, 201, 1, 2, 9, 10, 11, 12]
  refine ⟨_, rfl, ?_⟩; intro Az Hz
  refine ⟨m249.to ⟨il, il, il, il, il, il, il, trivial⟩, ?_⟩
  refine goA hP240 [9] 1 511 1023 Hz (m249.to ⟨il, il, il, il, il, il, il, trivial⟩) (.p (fun _ _ h_ => y_idx h_ rfl rfl U37 fct12 (k) rfl (by omega)) .nil) fun Az Hz => ?_
  have m252 := m249.closeC 9 rfl
  refine se 10 ?_
  refine e_storeR1 Hz m252 9 rfl (k) (by rw [List.length_map]; omega) rfl rfl rfl rfl fct12 (m252.rd (i := 201) rfl) fun w253 m253 => ?_
  have hset : (L3.map hD).set k [D.l 2 ((pruneF h9 (max fl fl2)).map itD)] = (L3.set k (pruneF h9 (max fl fl2))).map hD := by rw [List.map_set]; rfl
  rw [hset] at m253
  refine wpAnyE_done (by kernel_rfl) ?_ _
  refine hK20 _ _ ?_
  replace Hz := Hz.oz [2, 3, 4, 5, 10]
  refine wp_region_lit ?_
  refine goCh Hz (.move rfl <| .inc (k + 1) <| .assign rfl .nil) fun Az Hz => ?_
  refine wpList_nil ?_
  show ∃ n', n' < _ ∧ _
  have hstep : L3.set k (pruneF h9 (max fl fl2)) = ((Hk.take (k + 1)).map (fun h => pruneF h (max fl fl2)) ++ Hk.drop (k + 1)) := by rw [hL3]; exact prune_step hes
  exact ⟨H.length - (k + 1), by omega, k + 1, _, _, _, _, _, _, by omega, rfl, hstep, Hz.only [2, 3, 4, 5, 10], m253.ren [(1, 1), (2, 2), (9, 9), (10, 10), (11, 11), (12, 12)] (by decide)⟩
 intro hb234 Hz; try simp only [QQ, Qax] at hb234
 revert Hz
 obtain rfl : k = H.length := by have := hb234; first | omega | (simp at this; omega)
 intro Hz
 refine wcf Hz ?_
 refine wp_exit ?_
 refine hK18 _ _ ?_
 refine zsr fun K21 hK21 => ?_
 refine goCh Hz (.move rfl <| .fa 6 rfl U39 .nil) fun Az Hz => ?_
 refine plz (st1 Hz m229 10 fct4 fun w262 m262 _ => ?_)
 refine znl (hK21 _ _ ?_)
 replace Hz := Hz.oz [2, 3, 4, 5, 10]
 refine zsr fun K22 hK22 => ?_
 refine goCh Hz (.loadBR m262 (i := 10) rfl rfl U39 rfl fct5 (by simp) (by dsimp only [List.drop, List.take] <;> rfl) .nil) fun Az Hz => ?_
 refine plz (stw Hz m262 12 fct5 fun w266 m266 _ => ?_)
 refine znl (hK22 _ _ ?_)
 refine rtd (retC (fn := Tryz.f18) Hz m266 (i := 12) rfl rfl rfl U39 rfl fct5 ?_)
 have hend : L3 = Hk.map (fun h => pruneF h (max fl fl2)) := by rw [hL3, ← hfl, List.take_length, List.drop_length, List.append_nil]
 rw [hend, hHk] at m266
 exact ⟨_, _, rfl, m266.ren [(1, 1), (2, 2), (9, 9)] (by decide)⟩
end Go.Proofs.YteglmahnkfgelaaGreat.K
