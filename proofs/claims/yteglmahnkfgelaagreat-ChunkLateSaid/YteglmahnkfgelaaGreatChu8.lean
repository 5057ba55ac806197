/- chunk: Take of a chunk's bytes. -/
import Derived.Test.YteglmahnkfgelaaGreatChu7
namespace Go.Proofs.YteglmahnkfgelaaGreat.K
open Go.ChangeShapes Go.WideShapes Go.ChangeAt Go.RowKit
set_option linter.unusedVariables false
set_option linter.unusedSimpArgs false
theorem fl110cth : flatS Tryz.prog 110 [.int .i64 0, .slice none 0 0] = true := by kernel_rfl
theorem fl39ctk : flatS Tryz.prog 39 [.int .i64 0, .int .i64 0, .int .i64 0, .int .i64 0, .int .i64 0, .int .i64 0, .slice none 0 0] = true := by kernel_rfl
def P9 (l : List Int) : Prop := l.length ≤ 1000000 ∧ BytesL l
theorem P9.suf {a b : List Int} (h : (a ++ b).length ≤ 1000000 ∧ BytesL (a ++ b)) : b.length ≤ 1000000 ∧ BytesL b := ⟨by have := h.1; rw [List.length_append] at this; omega, fun x hx => h.2 x (List.mem_append_right _ hx)⟩
theorem ver_rest {h : List Ver} {R : List Int} (hY : (h.flatMap itB ++ R).length ≤ 1000000 ∧ BytesL (h.flatMap itB ++ R)) (j : Nat) : ((h.drop j).flatMap itB ++ R).length ≤ 1000000 ∧ BytesL ((h.drop j).flatMap itB ++ R) := by
 have e : h.flatMap itB ++ R = (h.take j).flatMap itB ++ ((h.drop j).flatMap itB ++ R) := by rw [← List.append_assoc, ← List.flatMap_append, List.take_append_drop]
 rw [e] at hY
 exact P9.suf hY
theorem hist_rest {H : List (List Ver)} {R : List Int} (hY : (H.flatMap hsB ++ R).length ≤ 1000000 ∧ BytesL (H.flatMap hsB ++ R)) (j : Nat) : ((H.drop j).flatMap hsB ++ R).length ≤ 1000000 ∧ BytesL ((H.drop j).flatMap hsB ++ R) := by
 have e : H.flatMap hsB ++ R = (H.take j).flatMap hsB ++ ((H.drop j).flatMap hsB ++ R) := by rw [← List.append_assoc, ← List.flatMap_append, List.take_append_drop]
 rw [e] at hY
 exact P9.suf hY
theorem ver_head {h : List Ver} {R : List Int} {j : Nat} {xs : Int} {xd : List Int} (hes : h[j]? = some (xs, xd)) (h1 : 0 ≤ xs ∧ xs ≤ 1099511627776) (hd : xd.length ≤ 32) : ∃ z, numR ((h.drop j).flatMap itB ++ R) 0 1099511627776 = (xs, z, 0) ∧ numR z 0 32 = ((xd.length : Int), xd ++ ((h.drop (j + 1)).flatMap itB ++ R), 0) := by
 have hj := (List.getElem?_eq_some_iff.1 hes)
 refine ⟨enc (xd.length : Int) ++ (xd ++ ((h.drop (j + 1)).flatMap itB ++ R)), ?_, numR_ok _ (by omega) (by omega) _ _ (by omega)⟩
 have e : (h.drop j).flatMap itB ++ R = enc xs ++ (enc (xd.length : Int) ++ (xd ++ ((h.drop (j + 1)).flatMap itB ++ R))) := by
   rw [List.drop_eq_getElem_cons hj.1, hj.2, List.flatMap_cons]
   simp only [itB, encs_one, List.append_assoc]
 rw [e]
 exact numR_ok _ (by omega) (by omega) _ _ (by omega)
theorem hist_head {H : List (List Ver)} {R : List Int} {k : Nat} {h9 : List Ver} (hes : H[k]? = some h9) (hl : h9.length ≤ 1000000) : numR ((H.drop k).flatMap hsB ++ R) 0 1099511627776 = ((h9.length : Int), h9.flatMap itB ++ ((H.drop (k + 1)).flatMap hsB ++ R), 0) := by
 have hj := (List.getElem?_eq_some_iff.1 hes)
 have e : (H.drop k).flatMap hsB ++ R = enc (h9.length : Int) ++ (h9.flatMap itB ++ ((H.drop (k + 1)).flatMap hsB ++ R)) := by
   rw [List.drop_eq_getElem_cons hj.1, hj.2, List.flatMap_cons]
   simp only [hsB, encs_one, List.append_assoc]
 rw [e]
 exact numR_ok _ (by omega) (by omega) _ _ (by omega)
theorem chunk_head {vo ch cn sz mk fl : Int} {H : List (List Ver)} {R : List Int} (hC : ChOk vo ch cn sz mk fl H) : ∃ y1 y2 y3 y4 y5, numR (chunkB vo ch cn sz mk fl H ++ R) 0 7 = (vo, y1, 0) ∧ numR y1 0 255 = (ch, y2, 0) ∧ numR y2 0 256 = (cn, y3, 0) ∧ numR y3 0 32 = (sz, y4, 0) ∧ numR y4 0 1099511627776 = (mk, y5, 0) ∧ numR y5 0 1099511627776 = (fl, H.flatMap hsB ++ R, 0) := by
 obtain ⟨⟨⟨hv0, hv1⟩, ⟨hc0, hc1⟩, ⟨hn0, hn1⟩, ⟨hz0, hz1⟩⟩, h1, h2, h3, h4⟩ := hC
 have e : chunkB vo ch cn sz mk fl H ++ R = enc vo ++ (enc ch ++ (enc cn ++ (enc sz ++ (enc mk ++ (enc fl ++ (H.flatMap hsB ++ R)))))) := by
   have hnil : encs [] = [] := rfl
   unfold chunkB
   simp only [encs_cons, hnil, List.nil_append, List.append_assoc]
 rw [e]
 exact ⟨_, _, _, _, _, numR_ok _ (by omega) (by omega) _ _ (by omega), numR_ok _ (by omega) (by omega) _ _ (by omega), numR_ok _ (by omega) (by omega) _ _ (by omega), numR_ok _ (by omega) (by omega) _ _ (by omega), numR_ok _ (by omega) (by omega) _ _ (by omega), numR_ok _ (by omega) (by omega) _ _ (by omega)⟩
set_option maxRecDepth 100000
set_option maxHeartbeats 4000000
theorem ctakehist_x (X : Cx) (h : List Ver) (R : List Int) {b : List Int} (B : Nat) (p : Option Addr) (c : Nat) (w0 : World) (hl : h.length ≤ 1000000) (hb : b.length ≤ 1000000 ∧ BytesL b) (hv : ∀ v ∈ h, (0 ≤ v.1 ∧ v.1 ≤ 1099511627776) ∧ v.2.length ≤ 32) (hN : numR b 0 1099511627776 = ((h.length : Int), h.flatMap itB ++ R, 0)) (m0 : MemOk X w0 [(1, .box B 115 [.slice p (b).length c, .int .i64 0]), (2, .dat (.slice p (b).length c) (.ns .u8 (b)))] w0) :
   Calls Tryz.prog 69 #[.pointer (some ⟨B, 0, none⟩)] w0 fun e w' => ∃ (p' : Option Addr) (c' : Nat) (p9 : Option Addr) (c9 : Nat), e = .returned (.slice p9 (h.map itD).length c9) ∧ MemOk X w0 [(1, .box B 115 [.slice p' (R).length c', .int .i64 0]), (2, .dat (.slice p' (R).length c') (.ns .u8 (R))), (9, .dat (.slice p9 (h.map itD).length c9) (.l 2 (h.map itD)))] w' := by
 refine ent1 Tryz.func69 rfl Tryz.ntmps69 fun Az Hz => ?_
 have hY := rest_y hN hb
 refine regS Hz (.assign rfl .nil) fun Az Hz => ?_
 refine regS Hz (.assign rfl .nil) fun Az Hz => ?_
 refine wsk fun K0 hK0 => ?_
 refine zsr fun K1 hK1 => ?_
 refine goCh Hz (.move rfl .nil) fun Az Hz => ?_
 refine plz (ecl Hz Tryz.func59 rfl (pnum_e (hN := hN) _ _ _ _ _ hb.1 hb.2 (m0.into [(1, 1), (2, 2)] (by decide) rfl)) ?_)
 rintro e w5 ⟨p5, c5, rfl, hm5⟩
 have mx5 := m0.back hm5 [(1, 1), (2, 2)] (by decide); clear hm5 m0
 have m5 := mx5.oz [1, 2]
 refine ⟨_, rfl, ?_⟩; intro Az Hz
 refine gz hK1 Hz (.move rfl .nil) fun Az Hz => ?_
 refine wp_block ?_
 refine wp_loop_ghost (fun g a w => ∃ (j : Nat) (p9 pr : Option Addr) (c9 cr : Nat), j ≤ h.length ∧ g = h.length - j ∧ Has 23 [(0, .pointer (some ⟨B, 0, none⟩)), (3, .slice p9 ((h.take j).map itD).length c9), (6, .int .u64 (h.length : Nat)), (7, .int .u64 (j : Nat))] a ∧ MemOk X w0 [(1, .box B 115 [.slice pr (((h.drop j).flatMap itB ++ R)).length cr, .int .i64 0]), (2, .dat (.slice pr (((h.drop j).flatMap itB ++ R)).length cr) (.ns .u8 (((h.drop j).flatMap itB ++ R)))), (9, .row (.slice p9 ((h.take j).map itD).length c9) 110 2 ((h.take j).map itD))] w) (h.length) ?_ ?_
 · have mz := m5.nilR 9 110 2
   have hE3 : h.flatMap itB ++ R = ((h.drop 0).flatMap itB ++ R) := by simp
   rw [hE3] at mz
   exact ⟨0, _, _, _, _, Nat.zero_le _, rfl, Hz.only [0, 3, 6, 7], mz.ren [(1, 1), (2, 2), (9, 9)] (by decide)⟩
 clear Hz m5
 rintro g Az w8 ⟨j, p9, pr, c9, cr, hjl, hg, Hz, m8⟩
 refine regS Hz (.lss rfl rfl .nil) fun Az Hz => ?_
 refine wsk fun K2 hK2 => ?_
 refine bc Hz 8 ?_ ?_
 ·
  intro hb10 Hz; try simp only [QQ, Qax] at hb10
  have hj : j < h.length := by have := hb10; first | omega | (simp at this; omega)
  obtain ⟨⟨xs, xd⟩, hes⟩ : ∃ e, h[j]? = some e := ⟨_, List.getElem?_eq_getElem hj⟩
  have hxv := hv _ (List.mem_of_getElem? hes)
  dsimp only at hxv
  have YB0 := ver_rest hY j
  obtain ⟨z2, hB1, hB2⟩ := ver_head (R := R) hes hxv.1 hxv.2
  have YB1 := rest_y hB1 YB0
  refine wct Hz ?_
  refine zss (hK2 _ _ ?_)
  refine wsk fun K3 hK3 => ?_
  refine wp_block ?_
  refine zsr fun K4 hK4 => ?_
  refine goCh Hz (.move rfl .nil) fun Az Hz => ?_
  refine plz (ecl Hz Tryz.func58 rfl (ctime_x hB1 _ _ _ _ _ YB0.1 YB0.2 (m8.into [(1, 1), (2, 2)] (by decide) rfl)) ?_)
  rintro e w13 ⟨p13, c13, rfl, hm13⟩
  have mx13 := m8.back hm13 [(1, 1), (2, 2)] (by decide); clear hm13 m8
  have m13 := mx13.oz [1, 2, 9]
  refine ⟨_, rfl, ?_⟩; intro Az Hz
  refine goCh Hz (.move rfl .nil) fun Az Hz => ?_
  refine plz (ecl Hz Tryz.func60 rfl (prlump_x hB2 _ _ _ _ _ YB1.1 YB1.2 (m13.into [(1, 1), (2, 2)] (by decide) rfl)) ?_)
  rintro e w16 ⟨p16, c16, pd16, cd16, rfl, hm16⟩
  have mx16 := m13.back hm16 [(1, 1), (2, 2), (100, 3)] (by decide); clear hm16 m13
  have m16 := mx16.oz [1, 2, 100, 9]
  refine ⟨_, rfl, ?_⟩; intro Az Hz
  refine goCh Hz (.build rfl fct11 fl110cth rfl (by dsimp only [setL, List.set] <;> rfl) .nil) fun Az Hz => ?_
  refine plz (e_alloc Hz m16 101 fct11 rfl fun g19 Az w20 Hz m20 _ _ => ?_)
  refine plz (stw Hz m20 101 fct10 fun w21 m21 _ => ?_)
  refine znl (hK4 _ _ ?_)
  refine wsk fun K5 hK5 => ?_
  replace Hz := Hz.oz [0, 3, 6, 7, 4]
  refine zsr fun K6 hK6 => ?_
  refine goCh Hz (.move rfl .nil) fun Az Hz => ?_
  refine plz (ecl Hz Tryz.func61 rfl (perr_x _ _ _ _ _ _ _ (m21.into [(1, 1), (2, 2)] (by decide) rfl)) ?_)
  rintro e w25 ⟨rfl, hm25⟩
  have mx25 := m21.back hm25 [(1, 1), (2, 2)] (by decide); clear hm25 m21
  have m25 := mx25.oz [1, 2, 9, 100, 101]
  refine ⟨_, rfl, ?_⟩; intro Az Hz
  refine gz hK6 Hz (.neq rfl rfl .nil) fun Az Hz => ?_
  refine bc Hz 16 ?_ ?_
  · intro hb _; exact absurd hb (by simp)
  clear Hz; intro _ Hz
  refine wcf Hz ?_
  refine zss (hK5 _ _ ?_)
  refine wp_region_lit ?_
  refine goCh Hz (.move rfl <| .loadBR m25 (i := 101) rfl rfl U110 rfl fct10 (by simp) (by dsimp only [List.drop, List.take] <;> rfl) .nil) fun Az Hz => ?_
  refine plz (e_litR Hz m25 102 (mm := 2) rfl (.cons rfl rfl (.cons (.v _) (.cons (m25.rd (i := 100) rfl) .nil)) .nil) U94 fct42 rfl rfl rfl rfl rfl fun g31 Az w32 Hz m32 => ?_)
  have m34 := m32.freezeR 102 rfl
  refine plz (e_appR Hz m34 9 rfl rfl rfl (m34.rd (i := 102) rfl) U94 fct42 rfl rfl (by decide) (by simp; omega) rfl fun p33 c33 Az w35 Hz m35 => ?_)
  refine gz hK3 Hz (.assign rfl .nil) fun Az Hz => ?_
  replace Hz := Hz.oz [0, 3, 6, 7]
  refine wp_region_lit ?_
  refine goCh Hz (.add rfl rfl (r := ((j + 1 : Nat) : Int)) (by rw [IntWalk.u64_in _ (by omega)]; omega) <| .move rfl .nil) fun Az Hz => ?_
  refine wpList_nil ?_
  show ∃ n', n' < _ ∧ _
  have hE : ((h.take j).map itD) ++ [[D.v (.int .i64 xs), .ns .u8 xd]] = ((h.take (j + 1)).map itD) := by rw [take_snoc hes, List.map_append]; rfl
  rw [hE] at m35 Hz
  exact ⟨h.length - (j + 1), by omega, j + 1, _, _, _, _, by omega, rfl, Hz.only [0, 3, 6, 7], m35.ren [(1, 1), (2, 2), (9, 9)] (by decide)⟩
 intro hb10 Hz; try simp only [QQ, Qax] at hb10
 revert Hz
 obtain rfl : j = h.length := by have := hb10; first | omega | (simp at this; omega)
 intro Hz
 have hd0 : (h.drop h.length).flatMap itB ++ R = R := by simp
 rw [hd0, List.take_length] at m8
 rw [List.take_length] at Hz
 refine wcf Hz ?_
 refine wp_exit ?_
 refine hK0 _ _ ?_
 refine regS Hz (.move rfl <| .assign rfl .nil) fun Az Hz => ?_
 refine rt1 Hz ?_
 have m42 := m8.freezeR 9 rfl
 exact ⟨_, _, _, _, rfl, m42.ren [(1, 1), (2, 2), (9, 9)] (by decide)⟩
theorem ctake_x (X : Cx) (vo ch cn sz mk fl : Int) (H : List (List Ver)) (R : List Int) {b : List Int} (B : Nat) (p : Option Addr) (c : Nat) (w0 : World) (hC : ChOk vo ch cn sz mk fl H) (hok : HsOk H) (hvs : ∀ h ∈ H, ∀ v ∈ h, (0 ≤ v.1 ∧ v.1 ≤ 1099511627776) ∧ v.2.length ≤ 32) (hbe : b = chunkB vo ch cn sz mk fl H ++ R) (hb : b.length ≤ 1000000 ∧ BytesL b) (m0 : MemOk X w0 [(1, .box B 115 [.slice p (b).length c, .int .i64 0]), (2, .dat (.slice p (b).length c) (.ns .u8 (b)))] w0) :
   Calls Tryz.prog 28 #[.pointer (some ⟨B, 0, none⟩)] w0 fun e w' => ∃ (p' : Option Addr) (c' : Nat) (p9 : Option Addr) (c9 : Nat), e = .returned (.tuple #[.agg #[.int .i64 vo, .int .i64 ch, .int .i64 cn, .int .i64 sz, .int .i64 mk, .int .i64 fl, .slice p9 H.length c9], .bool true]) ∧ MemOk X w0 [(1, .box B 115 [.slice p' (R).length c', .int .i64 0]), (2, .dat (.slice p' (R).length c') (.ns .u8 (R))), (9, .dat (.slice p9 H.length c9) (.l 1 (H.map hD)))] w' := by
 refine ent1 Tryz.func28 rfl Tryz.ntmps28 fun Az Hz => ?_
 obtain ⟨y1, y2, y3, y4, y5, hN1, hN2, hN3, hN4, hN5, hN6⟩ := chunk_head (R := R) hC
 rw [← hbe] at hN1
 have Y1 := rest_y hN1 hb
 have Y2 := rest_y hN2 Y1
 have Y3 := rest_y hN3 Y2
 have Y4 := rest_y hN4 Y3
 have Y5 := rest_y hN5 Y4
 have hY := rest_y hN6 Y5
 have hcl := hC.2.2.2.1
 have hcn := hC.1.2.2.1
 refine zsr fun K0 hK0 => ?_
 refine plz (e_alloc Hz m0 40 fct6 rfl fun g1 Az w2 Hz m2 _ _ => ?_)
 refine gz hK0 Hz (.assign rfl .nil) fun Az Hz => ?_
 refine wsk fun K1 hK1 => ?_
 refine regS Hz (.move rfl <| .eqlP rfl rfl U62 .nil) fun Az Hz => ?_
 refine bc Hz 7 ?_ ?_
 · intro hb _; exact absurd hb (by simp)
 clear Hz; intro _ Hz
 refine wcf Hz ?_
 refine zss (hK1 _ _ ?_)
 refine zsr fun K2 hK2 => ?_
 refine goCh Hz (.move rfl .nil) fun Az Hz => ?_
 refine plz (ecl Hz Tryz.func57 rfl (creadshape_x hN1 hN2 hN3 hN4 _ _ _ _ _ hb.1 hb.2 (m2.into [(1, 1), (2, 2)] (by decide) rfl)) ?_)
 rintro e w9 ⟨p9, c9, rfl, hm9⟩
 have mx9 := m2.back hm9 [(1, 1), (2, 2)] (by decide); clear hm9 m2
 have m9 := mx9.oz [1, 2, 40]
 refine ⟨_, rfl, ?_⟩; intro Az Hz
 refine plz (e_alloc Hz m9 41 fct2 rfl fun g11 Az w12 Hz m12 _ _ => ?_)
 refine plz (stw Hz m12 41 fct1 fun w13 m13 _ => ?_)
 refine znl (hK2 _ _ ?_)
 refine wsk fun K3 hK3 => ?_
 have m14 := m13.oz [1, 2, 40, 41]
 refine region_p 14 (B := [(41, _)]) (m14.to ⟨il, trivial⟩) m14 (by kernel_rfl) (fun w15 hP15 m15 => ?_); clear m14
 refine goR hP15 [0, 1, 2, 3, 4, 5, 6, 7, 8, 10] [1, 3, 5, 7] 10 0 1535 Hz (m15.to ⟨il, trivial⟩) (.fa 0 rfl U88 <| .lb hh 41 U3 rfl rfl rfl <| .fa 1 rfl U88 <| .lb hh 41 U3 rfl rfl rfl <| .fa 2 rfl U88 <| .lb hh 41 U3 rfl rfl rfl <| .fa 3 rfl U88 <| .lb hh 41 U3 rfl rfl rfl <| .move rfl <| .move rfl .nil) fun Az Hz => ?_
 refine dtw 9 13 ?_ ?_
 ·
  refine ecl Hz Tryz.func58 rfl (ctime_x hN5 _ _ _ _ _ Y4.1 Y4.2 (m15.into [(1, 1), (2, 2)] (by decide) rfl)) ?_
  rintro e w26 ⟨p26, c26, rfl, hm26⟩
  have mx26 := m15.back hm26 [(1, 1), (2, 2)] (by decide); clear hm26 m15
  have m26 := mx26.oz [1, 2, 40, 41]
  refine ⟨_, rfl, ?_⟩; intro Az Hz
  refine ⟨fun _ => (m26.to ⟨il, trivial⟩), ?_⟩
  refine dtw 11 13 ?_ ?_
  ·
   refine ecl Hz Tryz.func58 rfl (ctime_x hN6 _ _ _ _ _ Y5.1 Y5.2 (m26.into [(1, 1), (2, 2)] (by decide) rfl)) ?_
   rintro e w28 ⟨p28, c28, rfl, hm28⟩
   have mx28 := m26.back hm28 [(1, 1), (2, 2)] (by decide); clear hm28 m26
   have m28 := mx28.oz [1, 2, 40, 41]
   refine ⟨_, rfl, ?_⟩; intro Az Hz
   refine ⟨fun _ => (m28.to ⟨il, trivial⟩), ?_⟩
   refine goA hP15 [12] 1 4095 8191 Hz (m28.to ⟨il, trivial⟩) (.build rfl fct6 fl39ctk rfl (by dsimp only [setL, List.set] <;> rfl) .nil) fun Az Hz => ?_
   refine so 13 ?_
   refine e_alloc Hz m28 42 fct6 rfl fun g31 Az w32 Hz m32 _ _ => ?_
   refine ⟨m32.to ⟨il, trivial⟩, ?_⟩
   refine se 14 ?_
   refine stw Hz m32 42 fct5 fun w33 m33 _ => ?_
   refine wpAnyE_done (by kernel_rfl) ?_ _
   refine hK3 _ _ ?_
   refine wsk fun K4 hK4 => ?_
   replace Hz := Hz.oz [0, 2, 3, 5]
   refine regS Hz (.fa 2 rfl U39 <| .lb m33 42 U3 rfl rfl rfl <| .move rfl .nil) fun Az Hz => ?_
   refine wp_block ?_
   refine wp_loop_ghost (fun g a w => ∃ (k : Nat) (gZ gC : Nat) (pr p9 : Option Addr) (cr c9 : Nat), k ≤ H.length ∧ g = H.length - k ∧ Has 46 [(0, .pointer (some ⟨B, 0, none⟩)), (2, .pointer (some ⟨gZ, 0, none⟩)), (5, .pointer (some ⟨gC, 0, none⟩)), (25, .int .i64 cn), (26, .int .i64 (k : Nat))] a ∧ MemOk X w0 [(1, .box B 115 [.slice pr (((H.drop k).flatMap hsB ++ R)).length cr, .int .i64 0]), (2, .dat (.slice pr (((H.drop k).flatMap hsB ++ R)).length cr) (.ns .u8 (((H.drop k).flatMap hsB ++ R)))), (22, .box gC 39 [.int .i64 vo, .int .i64 ch, .int .i64 cn, .int .i64 sz, .int .i64 mk, .int .i64 fl, .slice p9 ((H.take k).map hD).length c9]), (23, .row (.slice p9 ((H.take k).map hD).length c9) 94 1 ((H.take k).map hD)), (29, .box gZ 39 [.int .i64 0, .int .i64 0, .int .i64 0, .int .i64 0, .int .i64 0, .int .i64 0, .slice none 0 0])] w) (H.length) ?_ ?_
   · have mz := m33.nilR 23 94 1
     have hE3 : H.flatMap hsB ++ R = ((H.drop 0).flatMap hsB ++ R) := by simp
     rw [hE3] at mz
     exact ⟨0, _, _, _, _, _, _, Nat.zero_le _, rfl, Hz.only [0, 2, 5, 25, 26], mz.ren [(1, 1), (2, 2), (22, 42), (23, 23), (29, 40)] (by decide)⟩
   clear Hz m33
   rintro g Az w38 ⟨k, gZ, gC, pr, p9, cr, c9, hkl, hg, Hz, m38⟩
   refine regS Hz (.lss rfl rfl .nil) fun Az Hz => ?_
   refine wsk fun K5 hK5 => ?_
   refine bc Hz 27 ?_ ?_
   ·
    intro hb40 Hz; try simp only [QQ, Qax] at hb40
    have hk : k < H.length := by have := hb40; first | omega | (simp at this; omega)
    obtain ⟨h9, hes⟩ : ∃ e, H[k]? = some e := ⟨_, List.getElem?_eq_getElem hk⟩
    have hh2 := hvs _ (List.mem_of_getElem? hes)
    have hh1 : h9.length ≤ 1000000 := (hok _ (List.mem_of_getElem? hes)).1
    have YH0 := hist_rest hY k
    have hhN := hist_head (R := R) hes hh1
    refine wct Hz ?_
    refine zss (hK5 _ _ ?_)
    refine wsk fun K6 hK6 => ?_
    refine wp_block ?_
    have m41 := m38.oz [1, 2, 22, 23, 29]
    refine region_p 7 (B := [(22, _)]) (m41.to ⟨il, trivial⟩) m41 (by kernel_rfl) (fun w42 hP42 m42 => ?_); clear m41
    refine goR hP42 [0, 1, 2] [1] 3 0 7 Hz (m42.to ⟨il, trivial⟩) (.fa 6 rfl U39 <| .lb hh 22 U37 rfl rfl rfl <| .move rfl .nil) fun Az Hz => ?_
    refine so 3 ?_
    refine ecl Hz Tryz.func69 rfl (ctakehist_x _ h9 ((H.drop (k + 1)).flatMap hsB ++ R) _ _ _ _ hh1 YH0 hh2 hhN (m42.into [(1, 1), (2, 2)] (by decide) rfl)) ?_
    rintro e w46 ⟨p46, c46, pq46, cq46, rfl, hm46⟩
    have mx46 := m42.back hm46 [(1, 1), (2, 2), (100, 9)] (by decide); clear hm46 m42
    have m46 := mx46.oz [1, 2, 100, 22, 23, 29]
    refine ⟨_, rfl, ?_⟩; intro Az Hz
    refine ⟨m46.to ⟨il, trivial⟩, ?_⟩
    refine so 4 ?_
    refine e_litR Hz m46 101 (mm := 1) rfl (.cons rfl rfl (.cons (m46.rd (i := 100) rfl) .nil) .nil) U37 fct3 rfl rfl rfl rfl rfl fun g48 Az w49 Hz m49 => ?_
    refine ⟨m49.to ⟨il, trivial⟩, ?_⟩
    have m51 := m49.freezeR 101 rfl
    refine so 5 ?_
    refine e_appR Hz m51 23 rfl rfl rfl (m51.rd (i := 101) rfl) U37 fct3 rfl rfl (by decide) (by simp; omega) rfl fun p50 c50 Az w52 Hz m52 => ?_
    refine ⟨m52.to ⟨il, trivial⟩, ?_⟩
    refine goA hP42 [6] 1 63 127 Hz (m52.to ⟨il, trivial⟩) (.fa 6 rfl U39 .nil) fun Az Hz => ?_
    refine se 7 ?_
    refine st1 Hz m52 22 fct4 fun w54 m54 _ => ?_
    refine wpAnyE_done (by kernel_rfl) ?_ _
    refine hK6 _ _ ?_
    replace Hz := Hz.oz [0, 2, 5, 25, 26]
    refine wp_region_lit ?_
    refine goCh Hz (.inc (k + 1) <| .move rfl .nil) fun Az Hz => ?_
    refine wpList_nil ?_
    show ∃ n', n' < _ ∧ _
    have hE : ((H.take k).map hD) ++ [[D.l 2 (h9.map itD)]] = ((H.take (k + 1)).map hD) := by rw [take_snoc hes, List.map_append]; rfl
    rw [hE] at m54
    exact ⟨H.length - (k + 1), by omega, k + 1, _, _, _, _, _, _, by omega, rfl, Hz.only [0, 2, 5, 25, 26], m54.ren [(1, 1), (2, 2), (22, 22), (23, 23), (29, 29)] (by decide)⟩
   intro hb40 Hz; try simp only [QQ, Qax] at hb40
   revert Hz
   obtain rfl : k = H.length := by have := hb40; first | omega | (simp at this; omega)
   intro Hz
   have hd0 : (H.drop H.length).flatMap hsB ++ R = R := by simp
   rw [hd0, List.take_length] at m38
   refine wcf Hz ?_
   refine wp_exit ?_
   refine hK4 _ _ ?_
   refine wsk fun K7 hK7 => ?_
   refine zsr fun K8 hK8 => ?_
   refine goCh Hz (.move rfl .nil) fun Az Hz => ?_
   refine plz (ecl Hz Tryz.func61 rfl (perr_x _ _ _ _ _ _ _ (m38.into [(1, 1), (2, 2)] (by decide) rfl)) ?_)
   rintro e w60 ⟨rfl, hm60⟩
   have mx60 := m38.back hm60 [(1, 1), (2, 2)] (by decide); clear hm60 m38
   have m60 := mx60.oz [1, 2, 22, 23, 29]
   refine ⟨_, rfl, ?_⟩; intro Az Hz
   refine goCh Hz (.neq rfl rfl <| .move rfl .nil) fun Az Hz => ?_
   refine bc Hz 39 ?_ ?_
   · intro hb _; exact absurd hb (by simp)
   clear Hz; intro _ Hz
   refine goCh Hz (.loadBRZ m60 (i := 22) rfl rfl U39 rfl fct5 (by simp) (by dsimp only [List.drop, List.take] <;> rfl) .nil) fun Az Hz => ?_
   have m66 := m60.freezeR 23 rfl
   refine stz Hz (ecl Hz Tryz.func23 rfl (cright_x _ vo ch cn sz mk fl H _ _ _ _ (by omega) hok (m66.into [(1, 23)] (by decide) rfl)) ?_)
   rintro e w67 ⟨bc9, rfl, hbc, hm67⟩
   have mx67 := m66.back hm67 [(23, 1)] (by decide); clear hm67 m66
   have m67 := mx67.oz [23, 1, 2, 22, 29]
   refine ⟨_, rfl, ?_⟩; intro Az Hz
   refine gz hK8 Hz (.notZ rfl <| .pickF rfl rfl <| .nil) fun Az Hz => ?_
   refine bc Hz 43 ?_ ?_
   · intro hb _; exact absurd hb (by rw [hbc.2 hC]; simp)
   clear Hz; intro _ Hz
   refine wcf Hz ?_
   refine zss (hK7 _ _ ?_)
   replace Hz := Hz.oz [0, 2, 5, 25, 26, 39]
   refine zsr fun K9 hK9 => ?_
   refine goCh Hz (.loadBR m67 (i := 22) rfl rfl U39 rfl fct5 (by simp) (by dsimp only [List.drop, List.take] <;> rfl) .nil) fun Az Hz => ?_
   refine plz (stw Hz m67 29 fct5 fun w75 m75 _ => ?_)
   refine gz hK9 Hz (.assign rfl .nil) fun Az Hz => ?_
   refine rtd (retCT (fn := Tryz.f28) Hz m75 (i := 29) rfl rfl rfl rfl U39 rfl fct5 ?_)
   rw [List.length_map] at m75
   rw [List.length_map]
   exact ⟨_, _, _, _, rfl, m75.ren [(1, 1), (2, 2), (9, 23)] (by decide)⟩
  refine e_alloc Hz m26 42 fct6 rfl fun g77 Az w78 Hz m78 _ _ => ?_
  refine ⟨fun _ => (m78.to ⟨il, trivial⟩), ?_⟩
  refine so 11 ?_
  refine ecl Hz Tryz.func58 rfl (ctime_x hN6 _ _ _ _ _ Y5.1 Y5.2 (m78.into [(1, 1), (2, 2)] (by decide) rfl)) ?_
  rintro e w79 ⟨p79, c79, rfl, hm79⟩
  have mx79 := m78.back hm79 [(1, 1), (2, 2)] (by decide); clear hm79 m78
  have m79 := mx79.oz [1, 2, 40, 41, 42]
  refine ⟨_, rfl, ?_⟩; intro Az Hz
  refine ⟨m79.to ⟨il, trivial⟩, ?_⟩
  refine goA hP15 [12] 1 12287 16383 Hz (m79.to ⟨il, trivial⟩) (.build rfl fct6 fl39ctk rfl (by dsimp only [setL, List.set] <;> rfl) .nil) fun Az Hz => ?_
  refine se 14 ?_
  refine stw Hz m79 42 fct5 fun w82 m82 _ => ?_
  refine wpAnyE_done (by kernel_rfl) ?_ _
  refine hK3 _ _ ?_
  refine wsk fun K10 hK10 => ?_
  replace Hz := Hz.oz [0, 2, 3, 5]
  refine regS Hz (.fa 2 rfl U39 <| .lb m82 42 U3 rfl rfl rfl <| .move rfl .nil) fun Az Hz => ?_
  refine wp_block ?_
  refine wp_loop_ghost (fun g a w => ∃ (k : Nat) (gZ gC : Nat) (pr p9 : Option Addr) (cr c9 : Nat), k ≤ H.length ∧ g = H.length - k ∧ Has 46 [(0, .pointer (some ⟨B, 0, none⟩)), (2, .pointer (some ⟨gZ, 0, none⟩)), (5, .pointer (some ⟨gC, 0, none⟩)), (25, .int .i64 cn), (26, .int .i64 (k : Nat))] a ∧ MemOk X w0 [(1, .box B 115 [.slice pr (((H.drop k).flatMap hsB ++ R)).length cr, .int .i64 0]), (2, .dat (.slice pr (((H.drop k).flatMap hsB ++ R)).length cr) (.ns .u8 (((H.drop k).flatMap hsB ++ R)))), (22, .box gC 39 [.int .i64 vo, .int .i64 ch, .int .i64 cn, .int .i64 sz, .int .i64 mk, .int .i64 fl, .slice p9 ((H.take k).map hD).length c9]), (23, .row (.slice p9 ((H.take k).map hD).length c9) 94 1 ((H.take k).map hD)), (29, .box gZ 39 [.int .i64 0, .int .i64 0, .int .i64 0, .int .i64 0, .int .i64 0, .int .i64 0, .slice none 0 0])] w) (H.length) ?_ ?_
  · have mz := m82.nilR 23 94 1
    have hE3 : H.flatMap hsB ++ R = ((H.drop 0).flatMap hsB ++ R) := by simp
    rw [hE3] at mz
    exact ⟨0, _, _, _, _, _, _, Nat.zero_le _, rfl, Hz.only [0, 2, 5, 25, 26], mz.ren [(1, 1), (2, 2), (22, 42), (23, 23), (29, 40)] (by decide)⟩
  clear Hz m82
  rintro g Az w87 ⟨k, gZ, gC, pr, p9, cr, c9, hkl, hg, Hz, m87⟩
  refine regS Hz (.lss rfl rfl .nil) fun Az Hz => ?_
  refine wsk fun K11 hK11 => ?_
  refine bc Hz 27 ?_ ?_
  ·
   intro hb89 Hz; try simp only [QQ, Qax] at hb89
   have hk : k < H.length := by have := hb89; first | omega | (simp at this; omega)
   obtain ⟨h9, hes⟩ : ∃ e, H[k]? = some e := ⟨_, List.getElem?_eq_getElem hk⟩
   have hh2 := hvs _ (List.mem_of_getElem? hes)
   have hh1 : h9.length ≤ 1000000 := (hok _ (List.mem_of_getElem? hes)).1
   have YH0 := hist_rest hY k
   have hhN := hist_head (R := R) hes hh1
   refine wct Hz ?_
   refine zss (hK11 _ _ ?_)
   refine wsk fun K12 hK12 => ?_
   refine wp_block ?_
   have m90 := m87.oz [1, 2, 22, 23, 29]
   refine region_p 7 (B := [(22, _)]) (m90.to ⟨il, trivial⟩) m90 (by kernel_rfl) (fun w91 hP91 m91 => ?_); clear m90
   refine goR hP91 [0, 1, 2] [1] 3 0 7 Hz (m91.to ⟨il, trivial⟩) (.fa 6 rfl U39 <| .lb hh 22 U37 rfl rfl rfl <| .move rfl .nil) fun Az Hz => ?_
   refine so 3 ?_
   refine ecl Hz Tryz.func69 rfl (ctakehist_x _ h9 ((H.drop (k + 1)).flatMap hsB ++ R) _ _ _ _ hh1 YH0 hh2 hhN (m91.into [(1, 1), (2, 2)] (by decide) rfl)) ?_
   rintro e w95 ⟨p95, c95, pq95, cq95, rfl, hm95⟩
   have mx95 := m91.back hm95 [(1, 1), (2, 2), (100, 9)] (by decide); clear hm95 m91
   have m95 := mx95.oz [1, 2, 100, 22, 23, 29]
   refine ⟨_, rfl, ?_⟩; intro Az Hz
   refine ⟨m95.to ⟨il, trivial⟩, ?_⟩
   refine so 4 ?_
   refine e_litR Hz m95 101 (mm := 1) rfl (.cons rfl rfl (.cons (m95.rd (i := 100) rfl) .nil) .nil) U37 fct3 rfl rfl rfl rfl rfl fun g97 Az w98 Hz m98 => ?_
   refine ⟨m98.to ⟨il, trivial⟩, ?_⟩
   have m100 := m98.freezeR 101 rfl
   refine so 5 ?_
   refine e_appR Hz m100 23 rfl rfl rfl (m100.rd (i := 101) rfl) U37 fct3 rfl rfl (by decide) (by simp; omega) rfl fun p99 c99 Az w101 Hz m101 => ?_
   refine ⟨m101.to ⟨il, trivial⟩, ?_⟩
   refine goA hP91 [6] 1 63 127 Hz (m101.to ⟨il, trivial⟩) (.fa 6 rfl U39 .nil) fun Az Hz => ?_
   refine se 7 ?_
   refine st1 Hz m101 22 fct4 fun w103 m103 _ => ?_
   refine wpAnyE_done (by kernel_rfl) ?_ _
   refine hK12 _ _ ?_
   replace Hz := Hz.oz [0, 2, 5, 25, 26]
   refine wp_region_lit ?_
   refine goCh Hz (.inc (k + 1) <| .move rfl .nil) fun Az Hz => ?_
   refine wpList_nil ?_
   show ∃ n', n' < _ ∧ _
   have hE : ((H.take k).map hD) ++ [[D.l 2 (h9.map itD)]] = ((H.take (k + 1)).map hD) := by rw [take_snoc hes, List.map_append]; rfl
   rw [hE] at m103
   exact ⟨H.length - (k + 1), by omega, k + 1, _, _, _, _, _, _, by omega, rfl, Hz.only [0, 2, 5, 25, 26], m103.ren [(1, 1), (2, 2), (22, 22), (23, 23), (29, 29)] (by decide)⟩
  intro hb89 Hz; try simp only [QQ, Qax] at hb89
  revert Hz
  obtain rfl : k = H.length := by have := hb89; first | omega | (simp at this; omega)
  intro Hz
  have hd0 : (H.drop H.length).flatMap hsB ++ R = R := by simp
  rw [hd0, List.take_length] at m87
  refine wcf Hz ?_
  refine wp_exit ?_
  refine hK10 _ _ ?_
  refine wsk fun K13 hK13 => ?_
  refine zsr fun K14 hK14 => ?_
  refine goCh Hz (.move rfl .nil) fun Az Hz => ?_
  refine plz (ecl Hz Tryz.func61 rfl (perr_x _ _ _ _ _ _ _ (m87.into [(1, 1), (2, 2)] (by decide) rfl)) ?_)
  rintro e w109 ⟨rfl, hm109⟩
  have mx109 := m87.back hm109 [(1, 1), (2, 2)] (by decide); clear hm109 m87
  have m109 := mx109.oz [1, 2, 22, 23, 29]
  refine ⟨_, rfl, ?_⟩; intro Az Hz
  refine goCh Hz (.neq rfl rfl <| .move rfl .nil) fun Az Hz => ?_
  refine bc Hz 39 ?_ ?_
  · intro hb _; exact absurd hb (by simp)
  clear Hz; intro _ Hz
  refine goCh Hz (.loadBRZ m109 (i := 22) rfl rfl U39 rfl fct5 (by simp) (by dsimp only [List.drop, List.take] <;> rfl) .nil) fun Az Hz => ?_
  have m115 := m109.freezeR 23 rfl
  refine stz Hz (ecl Hz Tryz.func23 rfl (cright_x _ vo ch cn sz mk fl H _ _ _ _ (by omega) hok (m115.into [(1, 23)] (by decide) rfl)) ?_)
  rintro e w116 ⟨bc9, rfl, hbc, hm116⟩
  have mx116 := m115.back hm116 [(23, 1)] (by decide); clear hm116 m115
  have m116 := mx116.oz [23, 1, 2, 22, 29]
  refine ⟨_, rfl, ?_⟩; intro Az Hz
  refine gz hK14 Hz (.notZ rfl <| .pickF rfl rfl <| .nil) fun Az Hz => ?_
  refine bc Hz 43 ?_ ?_
  · intro hb _; exact absurd hb (by rw [hbc.2 hC]; simp)
  clear Hz; intro _ Hz
  refine wcf Hz ?_
  refine zss (hK13 _ _ ?_)
  replace Hz := Hz.oz [0, 2, 5, 25, 26, 39]
  refine zsr fun K15 hK15 => ?_
  refine goCh Hz (.loadBR m116 (i := 22) rfl rfl U39 rfl fct5 (by simp) (by dsimp only [List.drop, List.take] <;> rfl) .nil) fun Az Hz => ?_
  refine plz (stw Hz m116 29 fct5 fun w124 m124 _ => ?_)
  refine gz hK15 Hz (.assign rfl .nil) fun Az Hz => ?_
  refine rtd (retCT (fn := Tryz.f28) Hz m124 (i := 29) rfl rfl rfl rfl U39 rfl fct5 ?_)
  rw [List.length_map] at m124
  rw [List.length_map]
  exact ⟨_, _, _, _, rfl, m124.ren [(1, 1), (2, 2), (9, 23)] (by decide)⟩
 refine e_alloc Hz m15 42 fct6 rfl fun g126 Az w127 Hz m127 _ _ => ?_
 refine ⟨fun _ => (m127.to ⟨il, trivial⟩), ?_⟩
 refine so 9 ?_
 refine ecl Hz Tryz.func58 rfl (ctime_x hN5 _ _ _ _ _ Y4.1 Y4.2 (m127.into [(1, 1), (2, 2)] (by decide) rfl)) ?_
 rintro e w128 ⟨p128, c128, rfl, hm128⟩
 have mx128 := m127.back hm128 [(1, 1), (2, 2)] (by decide); clear hm128 m127
 have m128 := mx128.oz [1, 2, 40, 41, 42]
 refine ⟨_, rfl, ?_⟩; intro Az Hz
 refine ⟨m128.to ⟨il, trivial⟩, ?_⟩
 refine so 11 ?_
 refine ecl Hz Tryz.func58 rfl (ctime_x hN6 _ _ _ _ _ Y5.1 Y5.2 (m128.into [(1, 1), (2, 2)] (by decide) rfl)) ?_
 rintro e w130 ⟨p130, c130, rfl, hm130⟩
 have mx130 := m128.back hm130 [(1, 1), (2, 2)] (by decide); clear hm130 m128
 have m130 := mx130.oz [1, 2, 40, 41, 42]
 refine ⟨_, rfl, ?_⟩; intro Az Hz
 refine ⟨m130.to ⟨il, trivial⟩, ?_⟩
 refine goA hP15 [12] 1 12287 16383 Hz (m130.to ⟨il, trivial⟩) (.build rfl fct6 fl39ctk rfl (by dsimp only [setL, List.set] <;> rfl) .nil) fun Az Hz => ?_
 refine se 14 ?_
 refine stw Hz m130 42 fct5 fun w133 m133 _ => ?_
 refine wpAnyE_done (by kernel_rfl) ?_ _
 refine hK3 _ _ ?_
 refine wsk fun K16 hK16 => ?_
 replace Hz := Hz.oz [0, 2, 3, 5]
 refine regS Hz (.fa 2 rfl U39 <| .lb m133 42 U3 rfl rfl rfl <| .move rfl .nil) fun Az Hz => ?_
 refine wp_block ?_
 refine wp_loop_ghost (fun g a w => ∃ (k : Nat) (gZ gC : Nat) (pr p9 : Option Addr) (cr c9 : Nat), k ≤ H.length ∧ g = H.length - k ∧ Has 46 [(0, .pointer (some ⟨B, 0, none⟩)), (2, .pointer (some ⟨gZ, 0, none⟩)), (5, .pointer (some ⟨gC, 0, none⟩)), (25, .int .i64 cn), (26, .int .i64 (k : Nat))] a ∧ MemOk X w0 [(1, .box B 115 [.slice pr (((H.drop k).flatMap hsB ++ R)).length cr, .int .i64 0]), (2, .dat (.slice pr (((H.drop k).flatMap hsB ++ R)).length cr) (.ns .u8 (((H.drop k).flatMap hsB ++ R)))), (22, .box gC 39 [.int .i64 vo, .int .i64 ch, .int .i64 cn, .int .i64 sz, .int .i64 mk, .int .i64 fl, .slice p9 ((H.take k).map hD).length c9]), (23, .row (.slice p9 ((H.take k).map hD).length c9) 94 1 ((H.take k).map hD)), (29, .box gZ 39 [.int .i64 0, .int .i64 0, .int .i64 0, .int .i64 0, .int .i64 0, .int .i64 0, .slice none 0 0])] w) (H.length) ?_ ?_
 · have mz := m133.nilR 23 94 1
   have hE3 : H.flatMap hsB ++ R = ((H.drop 0).flatMap hsB ++ R) := by simp
   rw [hE3] at mz
   exact ⟨0, _, _, _, _, _, _, Nat.zero_le _, rfl, Hz.only [0, 2, 5, 25, 26], mz.ren [(1, 1), (2, 2), (22, 42), (23, 23), (29, 40)] (by decide)⟩
 clear Hz m133
 rintro g Az w138 ⟨k, gZ, gC, pr, p9, cr, c9, hkl, hg, Hz, m138⟩
 refine regS Hz (.lss rfl rfl .nil) fun Az Hz => ?_
 refine wsk fun K17 hK17 => ?_
 refine bc Hz 27 ?_ ?_
 ·
  intro hb140 Hz; try simp only [QQ, Qax] at hb140
  have hk : k < H.length := by have := hb140; first | omega | (simp at this; omega)
  obtain ⟨h9, hes⟩ : ∃ e, H[k]? = some e := ⟨_, List.getElem?_eq_getElem hk⟩
  have hh2 := hvs _ (List.mem_of_getElem? hes)
  have hh1 : h9.length ≤ 1000000 := (hok _ (List.mem_of_getElem? hes)).1
  have YH0 := hist_rest hY k
  have hhN := hist_head (R := R) hes hh1
  refine wct Hz ?_
  refine zss (hK17 _ _ ?_)
  refine wsk fun K18 hK18 => ?_
  refine wp_block ?_
  have m141 := m138.oz [1, 2, 22, 23, 29]
  refine region_p 7 (B := [(22, _)]) (m141.to ⟨il, trivial⟩) m141 (by kernel_rfl) (fun w142 hP142 m142 => ?_); clear m141
  refine goR hP142 [0, 1, 2] [1] 3 0 7 Hz (m142.to ⟨il, trivial⟩) (.fa 6 rfl U39 <| .lb hh 22 U37 rfl rfl rfl <| .move rfl .nil) fun Az Hz => ?_
  refine so 3 ?_
  refine ecl Hz Tryz.func69 rfl (ctakehist_x _ h9 ((H.drop (k + 1)).flatMap hsB ++ R) _ _ _ _ hh1 YH0 hh2 hhN (m142.into [(1, 1), (2, 2)] (by decide) rfl)) ?_
  rintro e w146 ⟨p146, c146, pq146, cq146, rfl, hm146⟩
  have mx146 := m142.back hm146 [(1, 1), (2, 2), (100, 9)] (by decide); clear hm146 m142
  have m146 := mx146.oz [1, 2, 100, 22, 23, 29]
  refine ⟨_, rfl, ?_⟩; intro Az Hz
  refine ⟨m146.to ⟨il, trivial⟩, ?_⟩
  refine so 4 ?_
  refine e_litR Hz m146 101 (mm := 1) rfl (.cons rfl rfl (.cons (m146.rd (i := 100) rfl) .nil) .nil) U37 fct3 rfl rfl rfl rfl rfl fun g148 Az w149 Hz m149 => ?_
  refine ⟨m149.to ⟨il, trivial⟩, ?_⟩
  have m151 := m149.freezeR 101 rfl
  refine so 5 ?_
  refine e_appR Hz m151 23 rfl rfl rfl (m151.rd (i := 101) rfl) U37 fct3 rfl rfl (by decide) (by simp; omega) rfl fun p150 c150 Az w152 Hz m152 => ?_
  refine ⟨m152.to ⟨il, trivial⟩, ?_⟩
  refine goA hP142 [6] 1 63 127 Hz (m152.to ⟨il, trivial⟩) (.fa 6 rfl U39 .nil) fun Az Hz => ?_
  refine se 7 ?_
  refine st1 Hz m152 22 fct4 fun w154 m154 _ => ?_
  refine wpAnyE_done (by kernel_rfl) ?_ _
  refine hK18 _ _ ?_
  replace Hz := Hz.oz [0, 2, 5, 25, 26]
  refine wp_region_lit ?_
  refine goCh Hz (.inc (k + 1) <| .move rfl .nil) fun Az Hz => ?_
  refine wpList_nil ?_
  show ∃ n', n' < _ ∧ _
  have hE : ((H.take k).map hD) ++ [[D.l 2 (h9.map itD)]] = ((H.take (k + 1)).map hD) := by rw [take_snoc hes, List.map_append]; rfl
  rw [hE] at m154
  exact ⟨H.length - (k + 1), by omega, k + 1, _, _, _, _, _, _, by omega, rfl, Hz.only [0, 2, 5, 25, 26], m154.ren [(1, 1), (2, 2), (22, 22), (23, 23), (29, 29)] (by decide)⟩
 intro hb140 Hz; try simp only [QQ, Qax] at hb140
 revert Hz
 obtain rfl : k = H.length := by have := hb140; first | omega | (simp at this; omega)
 intro Hz
 have hd0 : (H.drop H.length).flatMap hsB ++ R = R := by simp
 rw [hd0, List.take_length] at m138
 refine wcf Hz ?_
 refine wp_exit ?_
 refine hK16 _ _ ?_
 refine wsk fun K19 hK19 => ?_
 refine zsr fun K20 hK20 => ?_
 refine goCh Hz (.move rfl .nil) fun Az Hz => ?_
 refine plz (ecl Hz Tryz.func61 rfl (perr_x _ _ _ _ _ _ _ (m138.into [(1, 1), (2, 2)] (by decide) rfl)) ?_)
 rintro e w160 ⟨rfl, hm160⟩
 have mx160 := m138.back hm160 [(1, 1), (2, 2)] (by decide); clear hm160 m138
 have m160 := mx160.oz [1, 2, 22, 23, 29]
 refine ⟨_, rfl, ?_⟩; intro Az Hz
 refine goCh Hz (.neq rfl rfl <| .move rfl .nil) fun Az Hz => ?_
 refine bc Hz 39 ?_ ?_
 · intro hb _; exact absurd hb (by simp)
 clear Hz; intro _ Hz
 refine goCh Hz (.loadBRZ m160 (i := 22) rfl rfl U39 rfl fct5 (by simp) (by dsimp only [List.drop, List.take] <;> rfl) .nil) fun Az Hz => ?_
 have m166 := m160.freezeR 23 rfl
 refine stz Hz (ecl Hz Tryz.func23 rfl (cright_x _ vo ch cn sz mk fl H _ _ _ _ (by omega) hok (m166.into [(1, 23)] (by decide) rfl)) ?_)
 rintro e w167 ⟨bc9, rfl, hbc, hm167⟩
 have mx167 := m166.back hm167 [(23, 1)] (by decide); clear hm167 m166
 have m167 := mx167.oz [23, 1, 2, 22, 29]
 refine ⟨_, rfl, ?_⟩; intro Az Hz
 refine gz hK20 Hz (.notZ rfl <| .pickF rfl rfl <| .nil) fun Az Hz => ?_
 refine bc Hz 43 ?_ ?_
 · intro hb _; exact absurd hb (by rw [hbc.2 hC]; simp)
 clear Hz; intro _ Hz
 refine wcf Hz ?_
 refine zss (hK19 _ _ ?_)
 replace Hz := Hz.oz [0, 2, 5, 25, 26, 39]
 refine zsr fun K21 hK21 => ?_
 refine goCh Hz (.loadBR m167 (i := 22) rfl rfl U39 rfl fct5 (by simp) (by dsimp only [List.drop, List.take] <;> rfl) .nil) fun Az Hz => ?_
 refine plz (stw Hz m167 29 fct5 fun w175 m175 _ => ?_)
 refine gz hK21 Hz (.assign rfl .nil) fun Az Hz => ?_
 refine rtd (retCT (fn := Tryz.f28) Hz m175 (i := 29) rfl rfl rfl rfl U39 rfl fct5 ?_)
 rw [List.length_map] at m175
 rw [List.length_map]
 exact ⟨_, _, _, _, rfl, m175.ren [(1, 1), (2, 2), (9, 23)] (by decide)⟩
end Go.Proofs.YteglmahnkfgelaaGreat.K
