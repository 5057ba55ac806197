/- export: every, the closure of Since, collect. -/
import Derived.Test.YtamjnimaeecmoaaGreatExp1
namespace Go.Proofs.YtamjnimaeecmoaaGreat.K
open Go.ChangeShapes Go.WideShapes Go.ChangeAt Go.RowKit
set_option linter.unusedVariables false
set_option linter.unusedSimpArgs false
theorem fl42ec1 : flatS Tryz.prog 42 [.int .i64 0, .int .i64 0, .int .i64 0, .int .i64 0, .slice none 0 0] = true := by kernel_rfl
theorem fl111ec1 : flatS Tryz.prog 111 [.int .i64 0, .slice none 0 0] = true := by kernel_rfl
theorem fl42ec2 : flatS Tryz.prog 42 [.int .i64 0, .int .i64 0, .int .i64 0, .int .i64 0, .slice none 0 0] = true := by kernel_rfl
theorem fl111ec2 : flatS Tryz.prog 111 [.int .i64 0, .slice none 0 0] = true := by kernel_rfl
theorem selJ_all (fn c : Nat) : selJ (fun _ => true) fn c = ((List.range c).map fun j : Nat => (j : Int)) := by
 unfold selJ selN; rw [List.filter_eq_self.2 (fun _ _ => rfl)]
theorem eread_x (X : Cx) (y : VolV) (k fn cnt m : Nat) (hC : CkOk y k fn cnt) (hF : VolF y) (hmn : m ≤ y.ws.length) (i nn c : Nat) (p : Option Addr) (tv : Int) (w0 : World) (S : List (List Int)) {tn : Nat} (hS : stL y.bl y.sz y.ws tn = S) (htv : tv = (tn : Int)) (hi : i < cnt) (hft : min y.fl (m : Int) ≤ tv) (ht : tv ≤ m) (m0 : MemOk X w0 [(1, .dat (.slice p nn c) (.l 1 ((chN y fn cnt m).map hD)))] w0) :
   Calls Tryz.prog 70 #[.agg #[.int .i64 y.vo, .int .i64 (k : Int), .int .i64 (cnt : Int), .int .i64 y.sz, .int .i64 (m : Int), .int .i64 (min y.fl (m : Int)), .slice p nn c], .int .i64 (i : Int), .int .i64 tv] w0 fun e w' => ∃ (p9 : Option Addr) (c9 : Nat), e = .returned (.tuple #[.slice p9 (S.getD (fn + i) []).length c9, .int .i64 0]) ∧ MemOk X w0 [(1, .dat (.slice p nn c) (.l 1 ((chN y fn cnt m).map hD))), (9, .dat (.slice p9 (S.getD (fn + i) []).length c9) (.ns .u8 (S.getD (fn + i) [])))] w' := by
 have hcl := chN_len y fn cnt m
 obtain rfl : cnt = nn := by have h9 := nnOf (m0.rd (i := 1) rfl); rw [hcl] at h9; exact h9.symm
 have hf0 := hF.fl0
 exact gread_f X y k fn cnt m (min y.fl (m : Int)) hC hF hmn ⟨by omega, by omega⟩ i tn p c tv w0 S hS htv hi hft ht m0
set_option maxRecDepth 100000
set_option maxHeartbeats 4000000
theorem eevery_x (X : Cx) (y : VolV) (k fn cnt m : Nat) (hC : CkOk y k fn cnt) (hF : VolF y) (hmn : m ≤ y.ws.length) (p : Option Addr) (c : Nat) (w0 : World) (m0 : MemOk X w0 [(1, .dat (.slice p cnt c) (.l 1 ((chN y fn cnt m).map hD)))] w0) :
   Calls Tryz.prog 40 #[.agg #[.int .i64 y.vo, .int .i64 (k : Int), .int .i64 (cnt : Int), .int .i64 y.sz, .int .i64 (m : Int), .int .i64 (min y.fl (m : Int)), .slice p cnt c]] w0 fun e w' => ∃ (p9 : Option Addr) (c9 : Nat), e = .returned (.slice p9 ((List.range cnt).map fun j : Nat => (j : Int)).length c9) ∧ MemOk X w0 [(1, .dat (.slice p cnt c) (.l 1 ((chN y fn cnt m).map hD))), (9, .num (.slice p9 ((List.range cnt).map fun j : Nat => (j : Int)).length c9) 3 .i64 ((List.range cnt).map fun j : Nat => (j : Int)))] w' := by
 have hc2 := hC.c256
 refine ent1 Tryz.func40 rfl Tryz.ntmps40 fun Az Hz => ?_
 refine zsr fun K0 hK0 => ?_
 refine plz (e_box Hz m0 40 (cs := [_, _, _, _, _, _, _]) rfl rfl rfl fun g1 Az w2 Hz m2 _ _ => ?_)
 refine gz hK0 Hz (.assign rfl .nil) fun Az Hz => ?_
 refine regS Hz (.assign rfl .nil) fun Az Hz => ?_
 refine wsk fun K1 hK1 => ?_
 refine regS Hz (.fa 6 rfl U28 <| .lb m2 40 U26 rfl rfl rfl <| .len rfl U26 <| .move rfl .nil) fun Az Hz => ?_
 refine wp_block ?_
 refine wp_loop_ghost (fun g a w => ∃ (i : Nat) (p9 : Option Addr) (c9 : Nat), i ≤ cnt ∧ g = cnt - i ∧ Has 17 [(3, .slice p9 ((List.range i).map fun j : Nat => (j : Int)).length c9), (7, .int .i64 (cnt : Int)), (8, .int .i64 (i : Int))] a ∧ MemOk X w0 [(1, .dat (.slice p cnt c) (.l 1 ((chN y fn cnt m).map hD))), (9, .num (.slice p9 ((List.range i).map fun j : Nat => (j : Int)).length c9) 3 .i64 ((List.range i).map fun j : Nat => (j : Int)))] w) (cnt) ?_ ?_
 · have mz := m2.nilN 9 3 .i64
   exact ⟨0, _, _, Nat.zero_le _, rfl, Hz.only [3, 7, 8], mz.only [1, 9]⟩
 clear Hz m2
 rintro g Az w9 ⟨i, p9, c9, hil, hg, Hz, m9⟩
 refine regS Hz (.lss rfl rfl .nil) fun Az Hz => ?_
 refine wsk fun K2 hK2 => ?_
 refine bc Hz 9 ?_ ?_
 ·
  intro hb11 Hz; try simp only [QQ, Qax] at hb11
  have hi : i < cnt := by have := hb11; first | omega | (simp at this; omega) | (simp at this; exact this)
  refine wct Hz ?_
  refine zss (hK2 _ _ ?_)
  refine wsk fun K3 hK3 => ?_
  refine wp_block ?_
  refine regS Hz (.move rfl <| .assign rfl .nil) fun Az Hz => ?_
  refine wp_region_lit ?_
  refine goCh Hz (.move rfl <| .move rfl .nil) fun Az Hz => ?_
  refine plz (e_litN Hz m9 100 (k := .i64) rfl rfl U29 fct36 rfl rfl rfl rfl fun g16 Az w17 Hz m17 => ?_)
  refine plz (e_appN Hz m17 9 rfl rfl rfl (m17.numsO (i := 100) rfl) U29 fct36 (by decide) (by simp; omega) rfl fun p18 c18 Az w19 Hz m19 => ?_)
  refine gz hK3 Hz (.assign rfl .nil) fun Az Hz => ?_
  replace Hz := Hz.oz [3, 7, 8]
  refine wp_region_lit ?_
  refine goCh Hz (.inc (i + 1) <| .move rfl .nil) fun Az Hz => ?_
  refine wpList_nil ?_
  show ∃ n', n' < _ ∧ _
  have hE : ((List.range i).map fun j : Nat => (j : Int)) ++ [(i : Int)] = ((List.range (i + 1)).map fun j : Nat => (j : Int)) := by rw [List.range_succ, List.map_append]; rfl
  rw [hE] at m19 Hz
  exact ⟨cnt - (i + 1), by omega, i + 1, _, _, by omega, rfl, Hz.only [3, 7, 8], m19.only [1, 9]⟩
 intro hb11 Hz; try simp only [QQ, Qax] at hb11
 obtain rfl : i = cnt := by have := hb11; first | omega | (simp at this; omega) | (simp at this; exact this)
 refine wcf Hz ?_
 refine wp_exit ?_
 refine hK1 _ _ ?_
 refine regS Hz (.move rfl <| .assign rfl .nil) fun Az Hz => ?_
 refine rt1 Hz ?_
 exact ⟨_, _, rfl, m9.ren [(1, 1), (9, 9)] (by decide)⟩
theorem eevery_c (X : Cx) (y : VolV) (k fn cnt m : Nat) (hC : CkOk y k fn cnt) (hF : VolF y) (hmn : m ≤ y.ws.length) (nn c : Nat) (p : Option Addr) (w0 : World) (m0 : MemOk X w0 [(1, .dat (.slice p nn c) (.l 1 ((chN y fn cnt m).map hD)))] w0) :
   Calls Tryz.prog 40 #[.agg #[.int .i64 y.vo, .int .i64 (k : Int), .int .i64 (cnt : Int), .int .i64 y.sz, .int .i64 (m : Int), .int .i64 (min y.fl (m : Int)), .slice p nn c]] w0 fun e w' => ∃ (p9 : Option Addr) (c9 : Nat), e = .returned (.slice p9 (selJ (fun _ => true) fn cnt).length c9) ∧ MemOk X w0 [(1, .dat (.slice p nn c) (.l 1 ((chN y fn cnt m).map hD))), (9, .num (.slice p9 (selJ (fun _ => true) fn cnt).length c9) 3 .i64 (selJ (fun _ => true) fn cnt))] w' := by
 have hcl := chN_len y fn cnt m
 obtain rfl : cnt = nn := by have h9 := nnOf (m0.rd (i := 1) rfl); rw [hcl] at h9; exact h9.symm
 rw [selJ_all]
 exact eevery_x X y k fn cnt m hC hF hmn p c w0 m0
theorem eclos_x (X : Cx) (y : VolV) (k fn cnt m : Nat) (hC : CkOk y k fn cnt) (hF : VolF y) (hmn : m ≤ y.ws.length) (p : Option Addr) (c gA gB : Nat) (a9 b9 : Int) (w0 : World) (m0 : MemOk X w0 [(1, .dat (.slice p cnt c) (.l 1 ((chN y fn cnt m).map hD))), (2, .box gA 2 [.int .i64 a9]), (3, .box gB 2 [.int .i64 b9])] w0) :
   Calls Tryz.prog 43 #[.agg #[.int .i64 y.vo, .int .i64 (k : Int), .int .i64 (cnt : Int), .int .i64 y.sz, .int .i64 (m : Int), .int .i64 (min y.fl (m : Int)), .slice p cnt c], .pointer (some ⟨gA, 0, none⟩), .pointer (some ⟨gB, 0, none⟩)] w0 fun e w' => ∃ (p9 : Option Addr) (c9 : Nat), e = .returned (.slice p9 (chgL (chN y fn cnt m) a9 b9 cnt).length c9) ∧ MemOk X w0 [(1, .dat (.slice p cnt c) (.l 1 ((chN y fn cnt m).map hD))), (2, .box gA 2 [.int .i64 a9]), (3, .box gB 2 [.int .i64 b9]), (9, .num (.slice p9 (chgL (chN y fn cnt m) a9 b9 cnt).length c9) 3 .i64 (chgL (chN y fn cnt m) a9 b9 cnt))] w' := by
 refine ent3 Tryz.func43 rfl Tryz.ntmps43 fun Az Hz => ?_
 refine zsr fun K0 hK0 => ?_
 refine plz (e_box Hz m0 40 (cs := [_, _, _, _, _, _, _]) rfl rfl rfl fun g1 Az w2 Hz m2 _ _ => ?_)
 refine gz hK0 Hz (.assign rfl .nil) fun Az Hz => ?_
 refine zsr fun K1 hK1 => ?_
 refine goCh Hz (.loadBR m2 (i := 40) rfl rfl U28 rfl fct12 (by simp) (by dsimp only [List.drop, List.take] <;> rfl) <| .lb m2 2 U2 rfl rfl rfl <| .lb m2 3 U2 rfl rfl rfl .nil) fun Az Hz => ?_
 refine plz (ecl Hz Tryz.func44 rfl (gchanged_c _ y k fn cnt m hC hF hmn _ _ _ _ _ _ (m2.into [(1, 1)] (by decide) rfl)) ?_)
 rintro e w10 ⟨p10, c10, rfl, hm10⟩
 have mx10 := m2.back hm10 [(1, 1), (41, 9)] (by decide); clear hm10 m2
 have m10 := mx10.oz [1, 41, 2, 3, 40]
 refine ⟨_, rfl, ?_⟩; intro Az Hz
 refine gz hK1 Hz (.assign rfl .nil) fun Az Hz => ?_
 refine rt1 Hz ?_
 exact ⟨_, _, rfl, m10.ren [(1, 1), (2, 2), (3, 3), (9, 41)] (by decide)⟩
theorem eclos_c (X : Cx) (y : VolV) (k fn cnt m : Nat) (hC : CkOk y k fn cnt) (hF : VolF y) (hmn : m ≤ y.ws.length) (hxe : m = y.ws.length) (nn c gA gB : Nat) (p : Option Addr) (a9 b9 : Int) (w0 : World) (m0 : MemOk X w0 [(1, .dat (.slice p nn c) (.l 1 ((chN y fn cnt m).map hD))), (2, .box gA 2 [.int .i64 a9]), (3, .box gB 2 [.int .i64 b9])] w0) :
   Calls Tryz.prog 43 #[.agg #[.int .i64 y.vo, .int .i64 (k : Int), .int .i64 (cnt : Int), .int .i64 y.sz, .int .i64 (m : Int), .int .i64 (min y.fl (m : Int)), .slice p nn c], .pointer (some ⟨gA, 0, none⟩), .pointer (some ⟨gB, 0, none⟩)] w0 fun e w' => ∃ (p9 : Option Addr) (c9 : Nat), e = .returned (.slice p9 (selJ (chgB y a9 b9) fn cnt).length c9) ∧ MemOk X w0 [(1, .dat (.slice p nn c) (.l 1 ((chN y fn cnt m).map hD))), (2, .box gA 2 [.int .i64 a9]), (3, .box gB 2 [.int .i64 b9]), (9, .num (.slice p9 (selJ (chgB y a9 b9) fn cnt).length c9) 3 .i64 (selJ (chgB y a9 b9) fn cnt))] w' := by
 have hcl := chN_len y fn cnt m
 obtain rfl : cnt = nn := by have h9 := nnOf (m0.rd (i := 1) rfl); rw [hcl] at h9; exact h9.symm
 subst hxe
 have h := eclos_x X y k fn cnt y.ws.length hC hF hmn p c gA gB a9 b9 w0 m0
 rw [chgB_ck] at h
 exact h
theorem ecoll_f (X : Cx) (y : VolV) (n : Nat) (hS : VolS n y) (hn : n ≤ 1000) (pp pn pw : Option Addr) (cp nn9 cn9 cw : Nat) (L Lp : List (Nat × Nat)) (pl : Option Addr) (nl cl : Nat) (fr t9 : Int) (tn : Nat) (S : List (List Int)) (w0 : World) (hLo : ∀ x ∈ L, x.1 < y.place.length ∧ x.2 ≤ y.ws.length) (hPL : PkL y L t9 t9 Lp y.place.length) (hS9 : stL y.bl y.sz y.ws tn = S) (htn : t9 = (tn : Int)) (hft : fr ≤ t9) (m0 : MemOk X w0 [(4, .dat (.slice pl nl cl) (.l 7 (Lp.map (ckD y))))] w0) :
   Calls Tryz.prog 39 #[.agg #[.int .i64 y.vo, .int .i64 y.bl, .int .i64 y.sz, .int .i64 y.pe, .slice pp y.place.length cp, .int .i64 y.to, .int .i64 y.ne, .bool y.hi, .int .i64 y.fl, .slice pn nn9 cn9, .slice pw (y.ws.map wrD).length cw], .slice pl nl cl, .int .i64 fr, .int .i64 t9, .func (.func 40) #[] #[]] w0 fun e w' => ∃ (p9 : Option Addr) (c9 : Nat), e = .returned (.tuple #[.agg #[.int .i64 y.bl, .int .i64 y.sz, .int .i64 fr, .int .i64 t9, .slice p9 ((selI S (fun _ => true) y.bl.toNat).map itD).length c9], .int .i64 0]) ∧ MemOk X w0 [(4, .dat (.slice pl nl cl) (.l 7 (Lp.map (ckD y)))), (9, .dat (.slice p9 ((selI S (fun _ => true) y.bl.toNat).map itD).length c9) (.l 2 ((selI S (fun _ => true) y.bl.toNat).map itD)))] w' := by
 refine ent5 Tryz.func39 rfl Tryz.ntmps39 fun Az Hz => ?_
 revert Hz
 obtain rfl : nl = Lp.length := nnOf (m0.rd (i := 4) rfl)
 intro Hz
 have hF := hS.f hn
 have hpt := place_top hS
 have hvp := vol_len hS
 have hPl := hPL.1
 refine zsr fun K0 hK0 => ?_
 refine plz (e_box Hz m0 60 (cs := [_, _, _, _, _, _, _, _, _, _, _]) rfl rfl rfl fun g1 Az w2 Hz m2 _ _ => ?_)
 refine plz (e_alloc Hz m2 61 fct38 rfl fun g3 Az w4 Hz m4 _ _ => ?_)
 refine gz hK0 Hz (.assign rfl .nil) fun Az Hz => ?_
 refine zsr fun K1 hK1 => ?_
 refine goCh Hz (.fa 1 rfl U33 <| .lb m4 60 U3 rfl rfl rfl <| .fa 2 rfl U33 <| .lb m4 60 U3 rfl rfl rfl <| .move rfl <| .move rfl <| .build rfl fct38 fl42ec1 rfl (by dsimp only [setL, List.set] <;> rfl) .nil) fun Az Hz => ?_
 refine plz (e_alloc Hz m4 62 fct38 rfl fun g20 Az w21 Hz m21 _ _ => ?_)
 refine plz (stw Hz m21 62 fct37 fun w22 m22 _ => ?_)
 refine znl (hK1 _ _ ?_)
 refine wsk fun K2 hK2 => ?_
 replace Hz := Hz.oz [1, 3, 4, 5, 10, 11, 12]
 refine regS Hz (.move rfl <| .len rfl U23 <| .move rfl .nil) fun Az Hz => ?_
 refine wp_block ?_
 refine wp_loop_ghost (fun g a w => ∃ (i : Nat) (B5 B10 B12 : Nat) (p9 : Option Addr) (c9 : Nat), i ≤ Lp.length ∧ g = Lp.length - i ∧ Has 68 [(3, .int .i64 t9), (4, .func (.func 40) #[] #[]), (5, .pointer (some ⟨B5, 0, none⟩)), (10, .pointer (some ⟨B10, 0, none⟩)), (12, .pointer (some ⟨B12, 0, none⟩)), (26, .slice pl Lp.length cl), (27, .int .i64 Lp.length), (28, .int .i64 i)] a ∧ MemOk X w0 [(4, .dat (.slice pl Lp.length cl) (.l 7 (Lp.map (ckD y)))), (20, .box B5 33 [.int .i64 y.vo, .int .i64 y.bl, .int .i64 y.sz, .int .i64 y.pe, .slice pp y.place.length cp, .int .i64 y.to, .int .i64 y.ne, .bool y.hi, .int .i64 y.fl, .slice pn nn9 cn9, .slice pw (y.ws.map wrD).length cw]), (21, .box B10 42 [.int .i64 0, .int .i64 0, .int .i64 0, .int .i64 0, .slice none 0 0]), (22, .box B12 42 [.int .i64 y.bl, .int .i64 y.sz, .int .i64 fr, .int .i64 t9, .slice p9 ((selI S (fun _ => true) (enY y i)).map itD).length c9]), (23, .row (.slice p9 ((selI S (fun _ => true) (enY y i)).map itD).length c9) 111 2 ((selI S (fun _ => true) (enY y i)).map itD))] w) (Lp.length) ?_ ?_
 · have hE0 : selI S (fun _ => true) (enY y 0) = [] := by rw [en_zero hS]; rfl
   have mz := m22.nilR 23 111 2
   exact ⟨0, _, _, _, _, _, Nat.zero_le _, rfl, Hz.only [3, 4, 5, 10, 12, 26, 27, 28], by rw [hE0]; exact mz.ren [(4, 4), (20, 60), (21, 61), (22, 62), (23, 23)] (by decide)⟩
 clear Hz m22
 rintro g Az w27 ⟨i, B5, B10, B12, p9, c9, hil, hg, Hz, m27⟩
 refine regS Hz (.lss rfl rfl .nil) fun Az Hz => ?_
 refine wsk fun K3 hK3 => ?_
 refine bc Hz 29 ?_ ?_
 ·
  intro hb29 Hz; try simp only [QQ, Qax] at hb29
  have hi9 : i < Lp.length := by have := hb29; first | omega | (simp at this; omega) | (simp at this; exact this)
  obtain ⟨⟨xk, xm⟩, hes⟩ : ∃ e, Lp[i]? = some e := ⟨_, List.getElem?_eq_getElem hi9⟩
  obtain ⟨⟨hx1, hxf, hxt⟩, hxL⟩ := hPL.2 _ _ hes
  dsimp only at hx1 hxf hxt
  revert Hz
  obtain rfl : i = xk := hx1.symm
  intro Hz
  have hi : i < y.place.length := by have := hPL.1; omega
  have hxm := (hLo _ hxL).2
  dsimp only at hxm
  have hfn := (ckY hS hi).fnb
  have hcn := (ckY hS hi).c256
  refine wct Hz ?_
  refine zss (hK3 _ _ ?_)
  refine wsk fun K4 hK4 => ?_
  refine wp_block ?_
  refine zsr fun K5 hK5 => ?_
  refine goCh Hz (.move rfl .nil) fun Az Hz => ?_
  obtain ⟨b33, o33, vs33, hp33, hR33, ho33, m33⟩ := m27.openR (i := 4) rfl (i) (r := [.v (.int .i64 y.vo), .v (.int .i64 (i : Int)), .v (.int .i64 (cnY y i : Int)), .v (.int .i64 y.sz), .v (.int .i64 (xm : Int)), .v (.int .i64 (min y.fl (xm : Int))), .l 1 ((chN y (fnY y i) (cnY y i) xm).map hD)]) (ckD_get hes) 100 rfl
  revert Hz
  cases hp33; clear m27 ho33
  rcases hR33 with _ | ⟨hd33_0, _ | ⟨hd33_1, _ | ⟨hd33_2, _ | ⟨hd33_3, _ | ⟨hd33_4, _ | ⟨hd33_5, _ | ⟨hd33_6, _ | _⟩⟩⟩⟩⟩⟩⟩
  obtain rfl := hd33_0.v_out
  clear hd33_0
  obtain rfl := hd33_1.v_out
  clear hd33_1
  obtain rfl := hd33_2.v_out
  clear hd33_2
  obtain rfl := hd33_3.v_out
  clear hd33_3
  obtain rfl := hd33_4.v_out
  clear hd33_4
  obtain rfl := hd33_5.v_out
  clear hd33_5
  obtain ⟨p34, c34, hv34, hc34⟩ := hd33_6.l_shape; subst hv34
  intro Hz
  have m34 := m33.dat 101 rfl (hd33_6.cast (fun _ h => (free_add rfl h))); clear m33 hd33_6
  refine goCh Hz (.c rfl (fun _ h_ => y_idx h_ rfl rfl U23 fct12 (i) rfl hi9) <| .loadCR m34 (i := 100) rfl rfl U28 rfl fct12 .nil) fun Az Hz => ?_
  refine plz (e_alloc Hz m34 102 fct17 rfl fun g37 Az w38 Hz m38 _ _ => ?_)
  refine goCh Hz (.assign rfl .nil) fun Az Hz => ?_
  refine plz (stw Hz m38 102 fct12 fun w40 m40 _ => ?_)
  refine znl (hK5 _ _ ?_)
  refine zsr fun K6 hK6 => ?_
  refine goCh Hz (.move rfl <| .loadBR m40 (i := 102) rfl rfl U28 rfl fct12 (by simp) (by dsimp only [List.drop, List.take] <;> rfl) .nil) fun Az Hz => ?_
  refine plz (e_callV Hz rfl Tryz.func40 rfl rfl rfl rfl (eevery_c _ y i _ _ xm (ckY hS hi) hF hxm _ _ _ _ (m40.into [(1, 101)] (by decide) rfl)) ?_)
  rintro e w45 ⟨p45, c45, rfl, hm45⟩
  have mx45 := m40.back hm45 [(101, 1), (103, 9)] (by decide); clear hm45 m40
  have m45 := mx45.oz [101, 103, 4, 20, 21, 22, 23, 100, 102]
  refine ⟨_, rfl, ?_⟩; intro Az Hz
  obtain ⟨Ln, hLn⟩ : ∃ L, selN (fun _ => true) (fnY y i) (cnY y i) = L := ⟨_, rfl⟩
  obtain ⟨Ls, hLs⟩ : ∃ L, selJ (fun _ => true) (fnY y i) (cnY y i) = L := ⟨_, rfl⟩
  have hLl : Ls.length = Ln.length := by rw [← hLs, ← hLn, selJ_len]
  have hLc : Ln.length ≤ cnY y i := by rw [← hLn]; exact selN_len _ _ _
  rw [hLs] at m45 Hz
  refine gz hK6 Hz (.len rfl U29 <| .move rfl <| .nil) fun Az Hz => ?_
  refine wp_block ?_
  have hE0 : ((selI S (fun _ => true) (enY y i)).map itD) = ((selI S (fun _ => true) (fnY y i) ++ ckI S (fnY y i) (Ln.take 0)).map itD) := by rw [en_fn hS hi, List.take_zero]; simp [ckI]
  rw [hE0] at m45
  refine wp_loop_ghost (fun g a w => ∃ (j B14 : Nat) (B5 B10 B12 : Nat) (p9 : Option Addr) (c9 : Nat) (pc pj : Option Addr) (nc cc cj : Nat), j ≤ Ln.length ∧ g = Ln.length - j ∧ Has 68 [(3, .int .i64 t9), (4, .func (.func 40) #[] #[]), (5, .pointer (some ⟨B5, 0, none⟩)), (10, .pointer (some ⟨B10, 0, none⟩)), (12, .pointer (some ⟨B12, 0, none⟩)), (26, .slice (some ⟨b33, o33, none⟩) Lp.length cl), (27, .int .i64 Lp.length), (28, .int .i64 i), (13, .int .i64 i), (14, .pointer (some ⟨B14, 0, none⟩)), (35, .slice pj Ls.length cj), (36, .int .i64 Ls.length), (37, .int .i64 (j : Int))] a ∧ MemOk X w0 [(4, .dat (.slice (some ⟨b33, o33, none⟩) Lp.length cl) (.l 7 (Lp.map (ckD y)))), (20, .box B5 33 [.int .i64 y.vo, .int .i64 y.bl, .int .i64 y.sz, .int .i64 y.pe, .slice pp y.place.length cp, .int .i64 y.to, .int .i64 y.ne, .bool y.hi, .int .i64 y.fl, .slice pn nn9 cn9, .slice pw (y.ws.map wrD).length cw]), (21, .box B10 42 [.int .i64 0, .int .i64 0, .int .i64 0, .int .i64 0, .slice none 0 0]), (22, .box B12 42 [.int .i64 y.bl, .int .i64 y.sz, .int .i64 fr, .int .i64 t9, .slice p9 ((selI S (fun _ => true) (fnY y i) ++ ckI S (fnY y i) (Ln.take j)).map itD).length c9]), (23, .row (.slice p9 ((selI S (fun _ => true) (fnY y i) ++ ckI S (fnY y i) (Ln.take j)).map itD).length c9) 111 2 ((selI S (fun _ => true) (fnY y i) ++ ckI S (fnY y i) (Ln.take j)).map itD)), (24, .box B14 28 [.int .i64 y.vo, .int .i64 (i : Int), .int .i64 (cnY y i : Int), .int .i64 y.sz, .int .i64 (xm : Int), .int .i64 (min y.fl (xm : Int)), .slice pc nc cc]), (25, .dat (.slice pc nc cc) (.l 1 ((chN y (fnY y i) (cnY y i) xm).map hD))), (26, .num (.slice pj Ls.length cj) 3 .i64 Ls)] w) (Ln.length) ?_ ?_
  · exact ⟨0, _, _, _, _, _, _, _, _, _, _, _, Nat.zero_le _, rfl, Hz.only [3, 4, 5, 10, 12, 26, 27, 28, 13, 14, 35, 36, 37], m45.ren [(4, 4), (20, 20), (21, 21), (22, 22), (23, 23), (24, 102), (25, 101), (26, 103)] (by decide)⟩
  clear Hz m45
  rintro g Az w49 ⟨j, B14, B5, B10, B12, p9, c9, pc, pj, nc, cc, cj, hjl, hg2, Hz, m49⟩
  refine regS Hz (.lss rfl rfl .nil) fun Az Hz => ?_
  refine wsk fun K7 hK7 => ?_
  refine bc Hz 38 ?_ ?_
  ·
   intro hb51 Hz; try simp only [QQ, Qax] at hb51
   have hj : j < Ln.length := by have := hb51; first | omega | (simp at this; omega) | (simp at this; exact this)
   have hjs : j < Ls.length := by omega
   obtain ⟨q, hqs, hqc, hqj⟩ : ∃ q, Ln[j]? = some q ∧ q < cnY y i ∧ Ls.getD j 0 = (q : Int) := by rw [← hLn, ← hLs]; exact selN_at (by rw [hLn]; exact hj)
   refine wct Hz ?_
   refine zss (hK7 _ _ ?_)
   refine wsk fun K8 hK8 => ?_
   refine wp_block ?_
   refine zsr fun K9 hK9 => ?_
   obtain ⟨g53, hpg53⟩ := m49.openO (i := 26) rfl (Nat.lt_of_le_of_lt (Nat.zero_le _) hjs)
   revert Hz
   cases hpg53
   intro Hz
   refine goCh Hz (.c rfl (fun _ h_ => y_idxO h_ rfl rfl U29 fct23 (j) rfl hjs) <| .c rfl (fun _ h_ => y_loadO h_ m49 (i := 26) rfl rfl rfl hjs U3 rfl) .nil) fun Az Hz => ?_
   rw [hqj] at Hz
   refine gz hK9 Hz (.assign rfl .nil) fun Az Hz => ?_
   refine zsr fun K10 hK10 => ?_
   refine goCh Hz (.loadBR m49 (i := 24) rfl rfl U28 rfl fct12 (by simp) (by dsimp only [List.drop, List.take] <;> rfl) <| .move rfl <| .move rfl .nil) fun Az Hz => ?_
   refine plz (ecl Hz Tryz.func70 rfl (eread_x _ y i _ _ xm (ckY hS hi) hF hxm q _ _ _ t9 _ S hS9 htn hqc (by omega) hxt (m49.into [(1, 25)] (by decide) rfl)) ?_)
   rintro e w63 ⟨p63, c63, rfl, hm63⟩
   have mx63 := m49.back hm63 [(25, 1), (200, 9)] (by decide); clear hm63 m49
   have m63 := mx63.oz [25, 200, 4, 20, 21, 22, 23, 24, 26]
   refine ⟨_, rfl, ?_⟩; intro Az Hz
   refine gz hK10 Hz (.move rfl <| .extract rfl rfl <| .extract rfl rfl <| .assign rfl <| .assign rfl <| .nil) fun Az Hz => ?_
   refine wsk fun K11 hK11 => ?_
   replace Hz := Hz.oz [3, 4, 5, 10, 12, 26, 27, 28, 13, 14, 35, 36, 37, 16, 42, 17, 18]
   refine regS Hz (.move rfl <| .neq rfl rfl .nil) fun Az Hz => ?_
   refine bc Hz 49 ?_ ?_
   · intro hb _; exact absurd hb (by simp)
   clear Hz; intro _ Hz
   refine wcf Hz ?_
   refine zss (hK11 _ _ ?_)
   refine wp_region_lit ?_
   refine goCh Hz (.fa 4 rfl U42 <| .lb m63 22 U40 rfl rfl rfl <| .move rfl <| .fa 3 rfl U33 <| .lb m63 20 U3 rfl rfl rfl <| .mul rfl rfl (r := ((fnY y i : Nat) : Int)) (by rw [← (ckY hS hi).fe]; exact IntWalk.i64_in _ (by omega)) <| .move rfl <| .add rfl rfl (r := ((fnY y i + q : Nat) : Int)) (by rw [IntWalk.i64_in _ (by omega)]; omega) <| .move rfl <| .build rfl fct25 fl111ec1 rfl (by dsimp only [setL, List.set] <;> rfl) .nil) fun Az Hz => ?_
   refine plz (e_litR Hz m63 201 (mm := 2) rfl (.cons rfl rfl (.cons (.v _) (.cons (m63.rd (i := 200) rfl) .nil)) .nil) U40 fct24 rfl rfl rfl rfl rfl fun g84 Az w85 Hz m85 => ?_)
   have m87 := m85.freezeR 201 rfl
   refine plz (e_appR Hz m87 23 rfl rfl rfl (m87.rd (i := 201) rfl) U40 fct24 rfl rfl (by decide) (by have h8 := selI_len S (fun _ => true) (fnY y i); have h9 := ckI_len S (fnY y i) (Ln.take j); rw [List.length_take] at h9; simp at h9 ⊢; omega) rfl fun p86 c86 Az w88 Hz m88 => ?_)
   refine goCh Hz (.fieldAddr (off := 4) rfl U42 rfl (s := 0) (by kernel_rfl) rfl .nil) fun Az Hz => ?_
   refine plz (st1 Hz m88 22 fct35 fun w90 m90 _ => ?_)
   refine znl (hK8 _ _ ?_)
   replace Hz := Hz.oz [3, 4, 5, 10, 12, 26, 27, 28, 13, 14, 35, 36, 37, 42]
   refine wp_region_lit ?_
   refine goCh Hz (.inc (j + 1) <| .move rfl .nil) fun Az Hz => ?_
   refine wpList_nil ?_
   show ∃ n', n' < _ ∧ _
   have hE2 : ((selI S (fun _ => true) (fnY y i) ++ ckI S (fnY y i) (Ln.take j)).map itD) ++ [[D.v (.int .i64 ((fnY y i + q : Nat) : Int)), .ns .u8 (S.getD (fnY y i + q) [])]] = ((selI S (fun _ => true) (fnY y i) ++ ckI S (fnY y i) (Ln.take (j + 1))).map itD) := by rw [ckI_snoc hqs, ← List.append_assoc, List.map_append (l₂ := [(((fnY y i + q : Nat) : Int), S.getD (fnY y i + q) [])])]; rfl
   rw [hE2] at m90
   exact ⟨Ln.length - (j + 1), by omega, j + 1, _, _, _, _, _, _, _, _, _, _, _, by omega, rfl, Hz.only [3, 4, 5, 10, 12, 26, 27, 28, 13, 14, 35, 36, 37], m90.ren [(4, 4), (20, 20), (21, 21), (22, 22), (23, 23), (24, 24), (25, 25), (26, 26)] (by decide)⟩
  intro hb51 Hz; try simp only [QQ, Qax] at hb51
  obtain rfl : j = Ln.length := by have := hb51; first | omega | (simp at this; omega) | (simp at this; exact this)
  rw [List.take_length] at *
  refine wcf Hz ?_
  refine wp_exit ?_
  refine hK4 _ _ ?_
  refine wp_region_lit ?_
  refine goCh Hz (.inc (i + 1) <| .move rfl .nil) fun Az Hz => ?_
  refine wpList_nil ?_
  show ∃ n', n' < _ ∧ _
  have hE1 : ((selI S (fun _ => true) (fnY y i) ++ ckI S (fnY y i) (Ln)).map itD) = ((selI S (fun _ => true) (enY y (i + 1))).map itD) := by rw [← hLn]; unfold selN; rw [← selI_ck, en_next hS hi]
  rw [hE1] at m49
  exact ⟨Lp.length - (i + 1), by omega, i + 1, _, _, _, _, _, by omega, rfl, Hz.only [3, 4, 5, 10, 12, 26, 27, 28], m49.ren [(4, 4), (20, 20), (21, 21), (22, 22), (23, 23)] (by decide)⟩
 intro hb29 Hz; try simp only [QQ, Qax] at hb29
 obtain rfl : i = Lp.length := by have := hb29; first | omega | (simp at this; omega) | (simp at this; exact this)
 refine wcf Hz ?_
 refine wp_exit ?_
 refine hK2 _ _ ?_
 refine zsr fun K12 hK12 => ?_
 refine goCh Hz (.loadBR m27 (i := 22) rfl rfl U42 rfl fct37 (by simp) (by dsimp only [List.drop, List.take] <;> rfl) .nil) fun Az Hz => ?_
 refine plz (stw Hz m27 21 fct37 fun w98 m98 _ => ?_)
 refine gz hK12 Hz (.assign rfl .nil) fun Az Hz => ?_
 refine rtd (retCT (fn := Tryz.f39) Hz m98 (i := 21) rfl rfl rfl rfl U42 rfl fct37 ?_)
 have m100 := m98.freezeR 23 rfl
 have hEn : enY y Lp.length = y.bl.toNat := by rw [hPL.1, en_all hS]
 rw [hEn] at m100
 rw [hEn]
 exact ⟨_, _, rfl, m100.ren [(4, 4), (9, 23)] (by decide)⟩
theorem ecoll_s (X : Cx) (y : VolV) (n : Nat) (hS : VolS n y) (hn : n ≤ 1000) (pp pn pw : Option Addr) (cp nn9 cn9 cw : Nat) (L Lp : List (Nat × Nat)) (pl : Option Addr) (nl cl : Nat) (fr t9 : Int) (tn : Nat) (S : List (List Int)) (w0 : World) (hLo : ∀ x ∈ L, x.1 < y.place.length ∧ x.2 ≤ y.ws.length) (hLe : ∀ x ∈ L, x.2 = y.ws.length) (gA gB : Nat) (hPL : PkL y L fr t9 Lp y.place.length) (hS9 : stL y.bl y.sz y.ws tn = S) (htn : t9 = (tn : Int)) (hft : fr ≤ t9) (m0 : MemOk X w0 [(4, .dat (.slice pl nl cl) (.l 7 (Lp.map (ckD y)))), (10, .box gA 2 [.int .i64 fr]), (11, .box gB 2 [.int .i64 t9])] w0) :
   Calls Tryz.prog 39 #[.agg #[.int .i64 y.vo, .int .i64 y.bl, .int .i64 y.sz, .int .i64 y.pe, .slice pp y.place.length cp, .int .i64 y.to, .int .i64 y.ne, .bool y.hi, .int .i64 y.fl, .slice pn nn9 cn9, .slice pw (y.ws.map wrD).length cw], .slice pl nl cl, .int .i64 fr, .int .i64 t9, .func (.func 43) #[] #[.pointer (some ⟨gA, 0, none⟩), .pointer (some ⟨gB, 0, none⟩)]] w0 fun e w' => ∃ (p9 : Option Addr) (c9 : Nat), e = .returned (.tuple #[.agg #[.int .i64 y.bl, .int .i64 y.sz, .int .i64 fr, .int .i64 t9, .slice p9 ((selI S (chgB y fr t9) y.bl.toNat).map itD).length c9], .int .i64 0]) ∧ MemOk X w0 [(4, .dat (.slice pl nl cl) (.l 7 (Lp.map (ckD y)))), (9, .dat (.slice p9 ((selI S (chgB y fr t9) y.bl.toNat).map itD).length c9) (.l 2 ((selI S (chgB y fr t9) y.bl.toNat).map itD))), (10, .box gA 2 [.int .i64 fr]), (11, .box gB 2 [.int .i64 t9])] w' := by
 refine ent5 Tryz.func39 rfl Tryz.ntmps39 fun Az Hz => ?_
 revert Hz
 obtain rfl : nl = Lp.length := nnOf (m0.rd (i := 4) rfl)
 intro Hz
 have hF := hS.f hn
 have hpt := place_top hS
 have hvp := vol_len hS
 have hPl := hPL.1
 refine zsr fun K0 hK0 => ?_
 refine plz (e_box Hz m0 60 (cs := [_, _, _, _, _, _, _, _, _, _, _]) rfl rfl rfl fun g1 Az w2 Hz m2 _ _ => ?_)
 refine plz (e_alloc Hz m2 61 fct38 rfl fun g3 Az w4 Hz m4 _ _ => ?_)
 refine gz hK0 Hz (.assign rfl .nil) fun Az Hz => ?_
 refine zsr fun K1 hK1 => ?_
 refine goCh Hz (.fa 1 rfl U33 <| .lb m4 60 U3 rfl rfl rfl <| .fa 2 rfl U33 <| .lb m4 60 U3 rfl rfl rfl <| .move rfl <| .move rfl <| .build rfl fct38 fl42ec2 rfl (by dsimp only [setL, List.set] <;> rfl) .nil) fun Az Hz => ?_
 refine plz (e_alloc Hz m4 62 fct38 rfl fun g20 Az w21 Hz m21 _ _ => ?_)
 refine plz (stw Hz m21 62 fct37 fun w22 m22 _ => ?_)
 refine znl (hK1 _ _ ?_)
 refine wsk fun K2 hK2 => ?_
 replace Hz := Hz.oz [1, 3, 4, 5, 10, 11, 12]
 refine regS Hz (.move rfl <| .len rfl U23 <| .move rfl .nil) fun Az Hz => ?_
 refine wp_block ?_
 refine wp_loop_ghost (fun g a w => ∃ (i : Nat) (B5 B10 B12 : Nat) (p9 : Option Addr) (c9 : Nat), i ≤ Lp.length ∧ g = Lp.length - i ∧ Has 68 [(3, .int .i64 t9), (4, .func (.func 43) #[] #[.pointer (some ⟨gA, 0, none⟩), .pointer (some ⟨gB, 0, none⟩)]), (5, .pointer (some ⟨B5, 0, none⟩)), (10, .pointer (some ⟨B10, 0, none⟩)), (12, .pointer (some ⟨B12, 0, none⟩)), (26, .slice pl Lp.length cl), (27, .int .i64 Lp.length), (28, .int .i64 i)] a ∧ MemOk X w0 [(4, .dat (.slice pl Lp.length cl) (.l 7 (Lp.map (ckD y)))), (20, .box B5 33 [.int .i64 y.vo, .int .i64 y.bl, .int .i64 y.sz, .int .i64 y.pe, .slice pp y.place.length cp, .int .i64 y.to, .int .i64 y.ne, .bool y.hi, .int .i64 y.fl, .slice pn nn9 cn9, .slice pw (y.ws.map wrD).length cw]), (21, .box B10 42 [.int .i64 0, .int .i64 0, .int .i64 0, .int .i64 0, .slice none 0 0]), (22, .box B12 42 [.int .i64 y.bl, .int .i64 y.sz, .int .i64 fr, .int .i64 t9, .slice p9 ((selI S (chgB y fr t9) (enY y i)).map itD).length c9]), (23, .row (.slice p9 ((selI S (chgB y fr t9) (enY y i)).map itD).length c9) 111 2 ((selI S (chgB y fr t9) (enY y i)).map itD)), (10, .box gA 2 [.int .i64 fr]), (11, .box gB 2 [.int .i64 t9])] w) (Lp.length) ?_ ?_
 · have hE0 : selI S (chgB y fr t9) (enY y 0) = [] := by rw [en_zero hS]; rfl
   have mz := m22.nilR 23 111 2
   exact ⟨0, _, _, _, _, _, Nat.zero_le _, rfl, Hz.only [3, 4, 5, 10, 12, 26, 27, 28], by rw [hE0]; exact mz.ren [(4, 4), (20, 60), (21, 61), (22, 62), (23, 23), (10, 10), (11, 11)] (by decide)⟩
 clear Hz m22
 rintro g Az w27 ⟨i, B5, B10, B12, p9, c9, hil, hg, Hz, m27⟩
 refine regS Hz (.lss rfl rfl .nil) fun Az Hz => ?_
 refine wsk fun K3 hK3 => ?_
 refine bc Hz 29 ?_ ?_
 ·
  intro hb29 Hz; try simp only [QQ, Qax] at hb29
  have hi9 : i < Lp.length := by have := hb29; first | omega | (simp at this; omega) | (simp at this; exact this)
  obtain ⟨⟨xk, xm⟩, hes⟩ : ∃ e, Lp[i]? = some e := ⟨_, List.getElem?_eq_getElem hi9⟩
  obtain ⟨⟨hx1, hxf, hxt⟩, hxL⟩ := hPL.2 _ _ hes
  dsimp only at hx1 hxf hxt
  revert Hz
  obtain rfl : i = xk := hx1.symm
  intro Hz
  have hi : i < y.place.length := by have := hPL.1; omega
  have hxm := (hLo _ hxL).2
  dsimp only at hxm
  have hxe := hLe _ hxL
  dsimp only at hxe
  have hfn := (ckY hS hi).fnb
  have hcn := (ckY hS hi).c256
  refine wct Hz ?_
  refine zss (hK3 _ _ ?_)
  refine wsk fun K4 hK4 => ?_
  refine wp_block ?_
  refine zsr fun K5 hK5 => ?_
  refine goCh Hz (.move rfl .nil) fun Az Hz => ?_
  obtain ⟨b33, o33, vs33, hp33, hR33, ho33, m33⟩ := m27.openR (i := 4) rfl (i) (r := [.v (.int .i64 y.vo), .v (.int .i64 (i : Int)), .v (.int .i64 (cnY y i : Int)), .v (.int .i64 y.sz), .v (.int .i64 (xm : Int)), .v (.int .i64 (min y.fl (xm : Int))), .l 1 ((chN y (fnY y i) (cnY y i) xm).map hD)]) (ckD_get hes) 100 rfl
  revert Hz
  cases hp33; clear m27 ho33
  rcases hR33 with _ | ⟨hd33_0, _ | ⟨hd33_1, _ | ⟨hd33_2, _ | ⟨hd33_3, _ | ⟨hd33_4, _ | ⟨hd33_5, _ | ⟨hd33_6, _ | _⟩⟩⟩⟩⟩⟩⟩
  obtain rfl := hd33_0.v_out
  clear hd33_0
  obtain rfl := hd33_1.v_out
  clear hd33_1
  obtain rfl := hd33_2.v_out
  clear hd33_2
  obtain rfl := hd33_3.v_out
  clear hd33_3
  obtain rfl := hd33_4.v_out
  clear hd33_4
  obtain rfl := hd33_5.v_out
  clear hd33_5
  obtain ⟨p34, c34, hv34, hc34⟩ := hd33_6.l_shape; subst hv34
  intro Hz
  have m34 := m33.dat 101 rfl (hd33_6.cast (fun _ h => (free_add rfl h))); clear m33 hd33_6
  refine goCh Hz (.c rfl (fun _ h_ => y_idx h_ rfl rfl U23 fct12 (i) rfl hi9) <| .loadCR m34 (i := 100) rfl rfl U28 rfl fct12 .nil) fun Az Hz => ?_
  refine plz (e_alloc Hz m34 102 fct17 rfl fun g37 Az w38 Hz m38 _ _ => ?_)
  refine goCh Hz (.assign rfl .nil) fun Az Hz => ?_
  refine plz (stw Hz m38 102 fct12 fun w40 m40 _ => ?_)
  refine znl (hK5 _ _ ?_)
  refine zsr fun K6 hK6 => ?_
  refine goCh Hz (.move rfl <| .loadBR m40 (i := 102) rfl rfl U28 rfl fct12 (by simp) (by dsimp only [List.drop, List.take] <;> rfl) .nil) fun Az Hz => ?_
  refine plz (e_callC Hz rfl Tryz.func43 rfl rfl rfl rfl (eclos_c _ y i _ _ xm (ckY hS hi) hF hxm hxe _ _ _ _ _ fr t9 _ (m40.into [(1, 101), (2, 10), (3, 11)] (by decide) rfl)) ?_)
  rintro e w45 ⟨p45, c45, rfl, hm45⟩
  have mx45 := m40.back hm45 [(101, 1), (10, 2), (11, 3), (103, 9)] (by decide); clear hm45 m40
  have m45 := mx45.oz [101, 10, 11, 103, 4, 20, 21, 22, 23, 100, 102]
  refine ⟨_, rfl, ?_⟩; intro Az Hz
  obtain ⟨Ln, hLn⟩ : ∃ L, selN (chgB y fr t9) (fnY y i) (cnY y i) = L := ⟨_, rfl⟩
  obtain ⟨Ls, hLs⟩ : ∃ L, selJ (chgB y fr t9) (fnY y i) (cnY y i) = L := ⟨_, rfl⟩
  have hLl : Ls.length = Ln.length := by rw [← hLs, ← hLn, selJ_len]
  have hLc : Ln.length ≤ cnY y i := by rw [← hLn]; exact selN_len _ _ _
  rw [hLs] at m45 Hz
  refine gz hK6 Hz (.len rfl U29 <| .move rfl <| .nil) fun Az Hz => ?_
  refine wp_block ?_
  have hE0 : ((selI S (chgB y fr t9) (enY y i)).map itD) = ((selI S (chgB y fr t9) (fnY y i) ++ ckI S (fnY y i) (Ln.take 0)).map itD) := by rw [en_fn hS hi, List.take_zero]; simp [ckI]
  rw [hE0] at m45
  refine wp_loop_ghost (fun g a w => ∃ (j B14 : Nat) (B5 B10 B12 : Nat) (p9 : Option Addr) (c9 : Nat) (pc pj : Option Addr) (nc cc cj : Nat), j ≤ Ln.length ∧ g = Ln.length - j ∧ Has 68 [(3, .int .i64 t9), (4, .func (.func 43) #[] #[.pointer (some ⟨gA, 0, none⟩), .pointer (some ⟨gB, 0, none⟩)]), (5, .pointer (some ⟨B5, 0, none⟩)), (10, .pointer (some ⟨B10, 0, none⟩)), (12, .pointer (some ⟨B12, 0, none⟩)), (26, .slice (some ⟨b33, o33, none⟩) Lp.length cl), (27, .int .i64 Lp.length), (28, .int .i64 i), (13, .int .i64 i), (14, .pointer (some ⟨B14, 0, none⟩)), (35, .slice pj Ls.length cj), (36, .int .i64 Ls.length), (37, .int .i64 (j : Int))] a ∧ MemOk X w0 [(4, .dat (.slice (some ⟨b33, o33, none⟩) Lp.length cl) (.l 7 (Lp.map (ckD y)))), (20, .box B5 33 [.int .i64 y.vo, .int .i64 y.bl, .int .i64 y.sz, .int .i64 y.pe, .slice pp y.place.length cp, .int .i64 y.to, .int .i64 y.ne, .bool y.hi, .int .i64 y.fl, .slice pn nn9 cn9, .slice pw (y.ws.map wrD).length cw]), (21, .box B10 42 [.int .i64 0, .int .i64 0, .int .i64 0, .int .i64 0, .slice none 0 0]), (22, .box B12 42 [.int .i64 y.bl, .int .i64 y.sz, .int .i64 fr, .int .i64 t9, .slice p9 ((selI S (chgB y fr t9) (fnY y i) ++ ckI S (fnY y i) (Ln.take j)).map itD).length c9]), (23, .row (.slice p9 ((selI S (chgB y fr t9) (fnY y i) ++ ckI S (fnY y i) (Ln.take j)).map itD).length c9) 111 2 ((selI S (chgB y fr t9) (fnY y i) ++ ckI S (fnY y i) (Ln.take j)).map itD)), (10, .box gA 2 [.int .i64 fr]), (11, .box gB 2 [.int .i64 t9]), (24, .box B14 28 [.int .i64 y.vo, .int .i64 (i : Int), .int .i64 (cnY y i : Int), .int .i64 y.sz, .int .i64 (xm : Int), .int .i64 (min y.fl (xm : Int)), .slice pc nc cc]), (25, .dat (.slice pc nc cc) (.l 1 ((chN y (fnY y i) (cnY y i) xm).map hD))), (26, .num (.slice pj Ls.length cj) 3 .i64 Ls)] w) (Ln.length) ?_ ?_
  · exact ⟨0, _, _, _, _, _, _, _, _, _, _, _, Nat.zero_le _, rfl, Hz.only [3, 4, 5, 10, 12, 26, 27, 28, 13, 14, 35, 36, 37], m45.ren [(4, 4), (20, 20), (21, 21), (22, 22), (23, 23), (10, 10), (11, 11), (24, 102), (25, 101), (26, 103)] (by decide)⟩
  clear Hz m45
  rintro g Az w49 ⟨j, B14, B5, B10, B12, p9, c9, pc, pj, nc, cc, cj, hjl, hg2, Hz, m49⟩
  refine regS Hz (.lss rfl rfl .nil) fun Az Hz => ?_
  refine wsk fun K7 hK7 => ?_
  refine bc Hz 38 ?_ ?_
  ·
   intro hb51 Hz; try simp only [QQ, Qax] at hb51
   have hj : j < Ln.length := by have := hb51; first | omega | (simp at this; omega) | (simp at this; exact this)
   have hjs : j < Ls.length := by omega
   obtain ⟨q, hqs, hqc, hqj⟩ : ∃ q, Ln[j]? = some q ∧ q < cnY y i ∧ Ls.getD j 0 = (q : Int) := by rw [← hLn, ← hLs]; exact selN_at (by rw [hLn]; exact hj)
   refine wct Hz ?_
   refine zss (hK7 _ _ ?_)
   refine wsk fun K8 hK8 => ?_
   refine wp_block ?_
   refine zsr fun K9 hK9 => ?_
   obtain ⟨g53, hpg53⟩ := m49.openO (i := 26) rfl (Nat.lt_of_le_of_lt (Nat.zero_le _) hjs)
   revert Hz
   cases hpg53
   intro Hz
   refine goCh Hz (.c rfl (fun _ h_ => y_idxO h_ rfl rfl U29 fct23 (j) rfl hjs) <| .c rfl (fun _ h_ => y_loadO h_ m49 (i := 26) rfl rfl rfl hjs U3 rfl) .nil) fun Az Hz => ?_
   rw [hqj] at Hz
   refine gz hK9 Hz (.assign rfl .nil) fun Az Hz => ?_
   refine zsr fun K10 hK10 => ?_
   refine goCh Hz (.loadBR m49 (i := 24) rfl rfl U28 rfl fct12 (by simp) (by dsimp only [List.drop, List.take] <;> rfl) <| .move rfl <| .move rfl .nil) fun Az Hz => ?_
   refine plz (ecl Hz Tryz.func70 rfl (eread_x _ y i _ _ xm (ckY hS hi) hF hxm q _ _ _ t9 _ S hS9 htn hqc (by omega) hxt (m49.into [(1, 25)] (by decide) rfl)) ?_)
   rintro e w63 ⟨p63, c63, rfl, hm63⟩
   have mx63 := m49.back hm63 [(25, 1), (200, 9)] (by decide); clear hm63 m49
   have m63 := mx63.oz [25, 200, 4, 10, 11, 20, 21, 22, 23, 24, 26]
   refine ⟨_, rfl, ?_⟩; intro Az Hz
   refine gz hK10 Hz (.move rfl <| .extract rfl rfl <| .extract rfl rfl <| .assign rfl <| .assign rfl <| .nil) fun Az Hz => ?_
   refine wsk fun K11 hK11 => ?_
   replace Hz := Hz.oz [3, 4, 5, 10, 12, 26, 27, 28, 13, 14, 35, 36, 37, 16, 42, 17, 18]
   refine regS Hz (.move rfl <| .neq rfl rfl .nil) fun Az Hz => ?_
   refine bc Hz 49 ?_ ?_
   · intro hb _; exact absurd hb (by simp)
   clear Hz; intro _ Hz
   refine wcf Hz ?_
   refine zss (hK11 _ _ ?_)
   refine wp_region_lit ?_
   refine goCh Hz (.fa 4 rfl U42 <| .lb m63 22 U40 rfl rfl rfl <| .move rfl <| .fa 3 rfl U33 <| .lb m63 20 U3 rfl rfl rfl <| .mul rfl rfl (r := ((fnY y i : Nat) : Int)) (by rw [← (ckY hS hi).fe]; exact IntWalk.i64_in _ (by omega)) <| .move rfl <| .add rfl rfl (r := ((fnY y i + q : Nat) : Int)) (by rw [IntWalk.i64_in _ (by omega)]; omega) <| .move rfl <| .build rfl fct25 fl111ec2 rfl (by dsimp only [setL, List.set] <;> rfl) .nil) fun Az Hz => ?_
   refine plz (e_litR Hz m63 201 (mm := 2) rfl (.cons rfl rfl (.cons (.v _) (.cons (m63.rd (i := 200) rfl) .nil)) .nil) U40 fct24 rfl rfl rfl rfl rfl fun g84 Az w85 Hz m85 => ?_)
   have m87 := m85.freezeR 201 rfl
   refine plz (e_appR Hz m87 23 rfl rfl rfl (m87.rd (i := 201) rfl) U40 fct24 rfl rfl (by decide) (by have h8 := selI_len S (chgB y fr t9) (fnY y i); have h9 := ckI_len S (fnY y i) (Ln.take j); rw [List.length_take] at h9; simp at h9 ⊢; omega) rfl fun p86 c86 Az w88 Hz m88 => ?_)
   refine goCh Hz (.fieldAddr (off := 4) rfl U42 rfl (s := 0) (by kernel_rfl) rfl .nil) fun Az Hz => ?_
   refine plz (st1 Hz m88 22 fct35 fun w90 m90 _ => ?_)
   refine znl (hK8 _ _ ?_)
   replace Hz := Hz.oz [3, 4, 5, 10, 12, 26, 27, 28, 13, 14, 35, 36, 37, 42]
   refine wp_region_lit ?_
   refine goCh Hz (.inc (j + 1) <| .move rfl .nil) fun Az Hz => ?_
   refine wpList_nil ?_
   show ∃ n', n' < _ ∧ _
   have hE2 : ((selI S (chgB y fr t9) (fnY y i) ++ ckI S (fnY y i) (Ln.take j)).map itD) ++ [[D.v (.int .i64 ((fnY y i + q : Nat) : Int)), .ns .u8 (S.getD (fnY y i + q) [])]] = ((selI S (chgB y fr t9) (fnY y i) ++ ckI S (fnY y i) (Ln.take (j + 1))).map itD) := by rw [ckI_snoc hqs, ← List.append_assoc, List.map_append (l₂ := [(((fnY y i + q : Nat) : Int), S.getD (fnY y i + q) [])])]; rfl
   rw [hE2] at m90
   exact ⟨Ln.length - (j + 1), by omega, j + 1, _, _, _, _, _, _, _, _, _, _, _, by omega, rfl, Hz.only [3, 4, 5, 10, 12, 26, 27, 28, 13, 14, 35, 36, 37], m90.ren [(4, 4), (20, 20), (21, 21), (22, 22), (23, 23), (10, 10), (11, 11), (24, 24), (25, 25), (26, 26)] (by decide)⟩
  intro hb51 Hz; try simp only [QQ, Qax] at hb51
  obtain rfl : j = Ln.length := by have := hb51; first | omega | (simp at this; omega) | (simp at this; exact this)
  rw [List.take_length] at *
  refine wcf Hz ?_
  refine wp_exit ?_
  refine hK4 _ _ ?_
  refine wp_region_lit ?_
  refine goCh Hz (.inc (i + 1) <| .move rfl .nil) fun Az Hz => ?_
  refine wpList_nil ?_
  show ∃ n', n' < _ ∧ _
  have hE1 : ((selI S (chgB y fr t9) (fnY y i) ++ ckI S (fnY y i) (Ln)).map itD) = ((selI S (chgB y fr t9) (enY y (i + 1))).map itD) := by rw [← hLn]; unfold selN; rw [← selI_ck, en_next hS hi]
  rw [hE1] at m49
  exact ⟨Lp.length - (i + 1), by omega, i + 1, _, _, _, _, _, by omega, rfl, Hz.only [3, 4, 5, 10, 12, 26, 27, 28], m49.ren [(4, 4), (20, 20), (21, 21), (22, 22), (23, 23), (10, 10), (11, 11)] (by decide)⟩
 intro hb29 Hz; try simp only [QQ, Qax] at hb29
 obtain rfl : i = Lp.length := by have := hb29; first | omega | (simp at this; omega) | (simp at this; exact this)
 refine wcf Hz ?_
 refine wp_exit ?_
 refine hK2 _ _ ?_
 refine zsr fun K12 hK12 => ?_
 refine goCh Hz (.loadBR m27 (i := 22) rfl rfl U42 rfl fct37 (by simp) (by dsimp only [List.drop, List.take] <;> rfl) .nil) fun Az Hz => ?_
 refine plz (stw Hz m27 21 fct37 fun w98 m98 _ => ?_)
 refine gz hK12 Hz (.assign rfl .nil) fun Az Hz => ?_
 refine rtd (retCT (fn := Tryz.f39) Hz m98 (i := 21) rfl rfl rfl rfl U42 rfl fct37 ?_)
 have m100 := m98.freezeR 23 rfl
 have hEn : enY y Lp.length = y.bl.toNat := by rw [hPL.1, en_all hS]
 rw [hEn] at m100
 rw [hEn]
 exact ⟨_, _, rfl, m100.ren [(4, 4), (9, 23), (10, 10), (11, 11)] (by decide)⟩
end Go.Proofs.YtamjnimaeecmoaaGreat.K
