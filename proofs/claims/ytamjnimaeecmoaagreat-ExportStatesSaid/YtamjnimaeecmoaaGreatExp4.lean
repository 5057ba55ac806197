/- The volume that four numbers make: a new one. -/
import Derived.Test.YtamjnimaeecmoaaGreatG5
import Derived.Test.YtamjnimaeecmoaaGreatG7
namespace Go.Proofs.YtamjnimaeecmoaaGreat.K
open Go.ChangeShapes Go.WideShapes Go.ChangeAt Go.RowKit
set_option linter.unusedVariables false
set_option linter.unusedSimpArgs false
theorem fl75esV : flatS Tryz.prog 75 [.slice none 0 0] = true := by kernel_rfl
theorem new_cmd {bl sz pe : Int} {place : List Int} (hN : NewOk 0 bl sz pe 0 place) (hp : place.length ≤ 9) : CmdOk 1 0 bl sz pe 0 0 0 place [] := by
 obtain ⟨a1, a2, a3, a4, a5, a6, a7, a8, a9, a10, a11⟩ := hN
 refine ⟨by decide, by decide, ⟨by omega, by omega, by omega, by omega, by omega, by omega⟩, by omega, fun k hk => ?_, by simp, (fun e h => by cases h), (fun e h => by cases h)⟩
 have h := a9.1 _ (List.getElem_mem hk)
 rw [List.getD, List.getElem?_eq_getElem hk]
 simp only [Option.getD_some]
 omega
set_option maxRecDepth 100000
set_option maxHeartbeats 4000000
theorem scmd_c (bl sz pe to ne fl : Int) (hi : Bool) (pp pn pw : Option Addr) (np cp nn9 cn9 nw cw : Nat) (wh xa xb xc : Int) (w0 : World) (hw9 : 0 ≤ wh ∧ wh ≤ 255) (ha9 : 0 ≤ xa ∧ xa ≤ 255) (hb9 : 0 ≤ xb ∧ xb ≤ 255) (hc9 : (0 ≤ xc ∧ xc ≤ 255) ∧ xc.tmod 4 ≠ 0) :
   Calls Tryz.prog 30 #[.agg #[.int .i64 0, .int .i64 bl, .int .i64 sz, .int .i64 pe, .slice pp np cp, .int .i64 to, .int .i64 ne, .bool hi, .int .i64 fl, .slice pn nn9 cn9, .slice pw nw cw], .bool false, .int .u8 wh, .int .u8 xa, .int .u8 xb, .int .u8 xc] w0 fun e w' => ∃ (bl2 sz2 pe2 : Int) (place : List Int) (pp : Option Addr) (cp : Nat), e = .returned (.agg #[.int .i64 1, .int .i64 0, .int .i64 bl2, .int .i64 sz2, .int .i64 pe2, .slice pp place.length cp, .int .i64 0, .int .i64 0, .int .i64 0, .slice none 0 0]) ∧ NewOk 0 bl2 sz2 pe2 0 place ∧ place.length ≤ 9 ∧ Rd (New w0) w' (.slice pp place.length cp) (.ns .i64 place) ∧ Below w0.heap.size w0 w' := by
 obtain ⟨hc9, hc4⟩ := hc9
 refine ent6 Tryz.func30 rfl Tryz.ntmps30 fun Az Hz => ?_
 have m0 := MemOk.start (fun _ => False) w0
 refine zsr fun K0 hK0 => ?_
 refine plz (e_box Hz m0 20 (cs := [_, _, _, _, _, _, _, _, _, _, _]) rfl rfl rfl fun g1 Az w2 Hz m2 _ _ => ?_)
 refine plz (e_alloc Hz m2 21 fct7 rfl fun g3 Az w4 Hz m4 _ _ => ?_)
 refine znl (hK0 _ _ ?_)
 refine wsk fun K1 hK1 => ?_
 refine regS Hz (.move rfl <| .not rfl .nil) fun Az Hz => ?_
 refine wct Hz ?_
 refine regS Hz (.assign rfl .nil) fun Az Hz => ?_
 refine wsk fun K2 hK2 => ?_
 refine regS Hz (.move rfl <| .rem rfl rfl (by decide) rfl <| .eql rfl rfl .nil) fun Az Hz => ?_
 refine bc Hz 19 ?_ ?_
 · intro hb _; exact absurd hb (by simpa using hc4)
 clear Hz; intro _ Hz
 refine wcf Hz ?_
 refine zss (hK2 _ _ ?_)
 replace Hz := Hz.oz [2, 3, 4, 5, 6, 12, 13]
 refine zsr fun K3 hK3 => ?_
 refine goCh Hz (.fa 0 rfl U33 <| .lb m4 20 U3 rfl rfl rfl <| .conv rfl U3 U5 (r := 0) (IntWalk.u8_in _ (by omega)) <| .move rfl <| .move rfl <| .move rfl <| .move rfl .nil) fun Az Hz => ?_
 refine plz (ecl Hz Tryz.func33 rfl (create_any 0 xa xb xc _ _ (by omega) ha9 hb9 hc9) ?_)
 rintro e w27 ⟨bl2, sz2, pe2, place, p27, c27, rfl, q1, q2, q3, q4, q5, q6, q7, hpl9, hd27, hb27⟩
 have m28 := m4.callF 22 rfl hb27 hd27
 refine ⟨_, rfl, ?_⟩; intro Az Hz
 refine plz (stw Hz m28 21 fct5 fun w30 m30 _ => ?_)
 refine znl (hK3 _ _ ?_)
 refine rtd (retC (fn := Tryz.f30) Hz m30 (i := 21) rfl rfl rfl U81 rfl fct5 ?_)
 exact ⟨_, _, _, place, _, _, rfl, ⟨by omega, by omega, q1, by omega, q3, by omega, q5, q6, q7, by omega, by omega⟩, hpl9, m30.outF (i := 22) rfl, m30.below⟩
theorem svol_k (l : List Int) (hl : l = [0, 2, 1, 1]) (pl : Option Addr) (cl : Nat) (w0 : World) (h0 : Rd (fun _ => True) w0 (.slice pl l.length cl) (.ns .u8 l)) :
   Calls Tryz.prog 10 #[.slice pl l.length cl] w0 fun e w' => ∃ (x : VolV) (p1 p2 p3 : Option Addr) (d1 d2 d3 : Nat), e = .returned (.agg #[.int .i64 x.vo, .int .i64 x.bl, .int .i64 x.sz, .int .i64 x.pe, .slice p1 x.place.length d1, .int .i64 x.to, .int .i64 x.ne, .bool x.hi, .int .i64 x.fl, .slice p2 x.pins.length d2, .slice p3 (x.ws.map wrD).length d3]) ∧ VolS 4 x ∧ x.hi = false ∧ x.ws = [] ∧ x.fl = 0 ∧ Rd (New w0) w' (.slice p1 x.place.length d1) (.ns .i64 x.place) ∧ Rd (New w0) w' (.slice p2 x.pins.length d2) (.ns .i64 x.pins) ∧ Rd (New w0) w' (.slice p3 (x.ws.map wrD).length d3) (.l 2 (x.ws.map wrD)) ∧ Below w0.heap.size w0 w' := by
 refine ent1 Tryz.func10 rfl Tryz.ntmps10 fun Az Hz => ?_
 have m0 := MemOk.start (fun _ => False) w0
 have hl4 : l.length = 4 := by rw [hl]; rfl
 refine zsr fun K0 hK0 => ?_
 refine plz (e_alloc Hz m0 20 fct2 rfl fun g1 Az w2 Hz m2 _ _ => ?_)
 refine znl (hK0 _ _ ?_)
 refine zsr fun K1 hK1 => ?_
 refine goCh Hz (.build rfl fct43 fl75esV rfl (by dsimp only [setL, List.set] <;> rfl) .nil) fun Az Hz => ?_
 refine plz (e_box Hz m2 21 (cs := [_]) rfl rfl rfl fun g5 Az w6 Hz m6 _ _ => ?_)
 refine gz hK1 Hz (.assign rfl .nil) fun Az Hz => ?_
 refine wsk fun K2 hK2 => ?_
 refine regS Hz (.assign rfl .nil) fun Az Hz => ?_
 refine wp_block ?_
 refine wp_loop_ghost (fun g a w => ∃ (i B2 B c : Nat) (L : List VolV) (p : Option Addr), ((i = 0 ∧ L = []) ∨ (i = 4 ∧ ∃ x : VolV, VolS 4 x ∧ x.hi = false ∧ x.ws = [] ∧ x.fl = 0 ∧ L = [x])) ∧ g = 4 - i ∧ Has 72 [(0, .slice pl l.length cl), (2, .pointer (some ⟨B2, 0, none⟩)), (3, .pointer (some ⟨B, 0, none⟩)), (4, .int .i64 i)] a ∧ MemOk (cn w0) w0 [(1, .box B 75 [.slice p (L.map volD).length c]), (2, .dat (.slice p (L.map volD).length c) (.l 11 (L.map volD))), (3, .box B2 33 [.int .i64 0, .int .i64 0, .int .i64 0, .int .i64 0, .slice none 0 0, .int .i64 0, .int .i64 0, .bool false, .int .i64 0, .slice none 0 0, .slice none 0 0])] w) (4) ?_ ?_
 · have mz := m6.dat 2 rfl (Rd.l0 none 0 11)
   exact ⟨0, _, _, _, [], _, .inl ⟨rfl, rfl⟩, rfl, Hz.only [0, 2, 3, 4], mz.ren [(1, 21), (2, 2), (3, 20)] (by decide)⟩
 clear Hz m6
 rintro g Az w9 ⟨i, B2, B, c, L, p, hcs, hg, Hz, m9⟩
 refine wsk fun K3 hK3 => ?_
 refine regS Hz (.move rfl <| .inc (i + 3) <| .move rfl <| .len rfl U22 <| .lss rfl rfl .nil) fun Az Hz => ?_
 refine bc Hz 17 ?_ ?_
 ·
  intro hb15 Hz; try simp only [QQ, Qax] at hb15
  obtain ⟨rfl, hL⟩ : i = 0 ∧ L = [] := by
    rcases hcs with h | ⟨h, -⟩
    · exact h
    exact absurd hb15 (by simp; omega)
  refine wct Hz ?_
  refine zss (hK3 _ _ ?_)
  refine wsk fun K4 hK4 => ?_
  refine wp_block ?_
  refine zsr fun K5 hK5 => ?_
  refine goCh Hz (.move rfl .nil) fun Az Hz => ?_
  refine plz (ecl Hz Tryz.func28 rfl (rmVol _ _ L _ _ _ _ (by rw [hL]; simp) (m9.into [(1, 1), (2, 2)] (by decide) rfl)) ?_)
  rintro e w18 ⟨x, th, p118, p218, p318, d118, d218, d318, rfl, hx1, hx0, hm18⟩
  have mx18 := m9.back hm18 [(1, 1), (2, 2), (100, 3), (101, 4), (102, 5)] (by decide); clear hm18 m9
  have m18 := mx18.oz [1, 2, 100, 101, 102, 3]
  refine ⟨_, rfl, ?_⟩; intro Az Hz
  obtain rfl : th = false := by
    cases th
    · rfl
    have h := hx1 rfl
    rw [hL] at h
    cases h
  revert Hz
  obtain rfl := hx0 rfl
  intro Hz
  refine goCh Hz (.move rfl <| .extract rfl rfl <| .extract rfl rfl .nil) fun Az Hz => ?_
  refine plz (e_alloc Hz m18 103 fct2 rfl fun g23 Az w24 Hz m24 _ _ => ?_)
  refine plz (stw Hz m24 103 fct1 fun w25 m25 _ => ?_)
  refine gz hK5 Hz (.assign rfl .nil) fun Az Hz => ?_
  refine wsk fun K6 hK6 => ?_
  replace Hz := Hz.oz [0, 2, 3, 4, 5, 6]
  obtain ⟨gx29, ox29, hp29, hl29, hrg29⟩ := h0.extN (0) (by omega)
  revert Hz
  cases hp29
  intro Hz
  obtain ⟨gx31, ox31, hp31, hl31, hrg31⟩ := h0.extN (0 + 1) (by omega)
  revert Hz
  cases hp31
  intro Hz
  obtain ⟨gx33, ox33, hp33, hl33, hrg33⟩ := h0.extN (0 + 2) (by omega)
  revert Hz
  cases hp33
  intro Hz
  obtain ⟨gx35, ox35, hp35, hl35, hrg35⟩ := h0.extN (0 + 3) (by omega)
  revert Hz
  cases hp35
  intro Hz
  have m36 := m25.oz [1, 2, 3, 100, 101, 102, 103]
  refine region_p 21 (B := [(1, _), (2, _), (3, _), (100, _), (101, _), (102, _), (103, _)]) (m36.to ⟨il, il, il, il, il, il, il, trivial⟩) m36 (by kernel_rfl) (fun w37 hP37 m37 => ?_); clear m36
  refine goR hP37 [0, 1, 2, 3, 4, 5, 6, 7, 8, 9, 10, 11, 12, 13, 14, 15, 16, 17, 18, 19, 20] [0, 5, 10, 15, 20] 21 0 2097151 Hz (m37.to ⟨il, il, il, il, il, il, il, trivial⟩) (.loadBR hh (i := 103) rfl rfl U33 rfl fct1 (by simp) (by dsimp only [List.drop, List.take] <;> rfl) <| .move rfl <| .move rfl <| .move rfl <| .p (fun _ _ h_ => y_idx h_ rfl rfl U22 fct33 (0) rfl (by omega)) <| .loadAt1 (fun _ h_ => (hrg29 h_ rfl)) (q := 0) rfl rfl rfl U5 rfl <| .move rfl <| .move rfl <| .add rfl rfl (r := ((0 + 1 : Nat) : Int)) (by rw [IntWalk.i64_in _ (by omega)]; omega) <| .p (fun _ _ h_ => y_idx h_ rfl rfl U22 fct33 (0 + 1) rfl (by omega)) <| .loadAt1 (fun _ h_ => (hrg31 h_ rfl)) (q := 0) rfl rfl rfl U5 rfl <| .move rfl <| .move rfl <| .add rfl rfl (r := ((0 + 2 : Nat) : Int)) (by rw [IntWalk.i64_in _ (by omega)]; omega) <| .p (fun _ _ h_ => y_idx h_ rfl rfl U22 fct33 (0 + 2) rfl (by omega)) <| .loadAt1 (fun _ h_ => (hrg33 h_ rfl)) (q := 0) rfl rfl rfl U5 rfl <| .move rfl <| .move rfl <| .add rfl rfl (r := ((0 + 3 : Nat) : Int)) (by rw [IntWalk.i64_in _ (by omega)]; omega) <| .p (fun _ _ h_ => y_idx h_ rfl rfl U22 fct33 (0 + 3) rfl (by omega)) <| .loadAt1 (fun _ h_ => (hrg35 h_ rfl)) (q := 0) rfl rfl rfl U5 rfl .nil) fun Az Hz => ?_
  refine se 21 ?_
  refine ecl Hz Tryz.func30 rfl (scmd_c _ _ _ _ _ _ _ _ _ _ _ _ _ _ _ _ _ _ _ _ _ (by rw [hl]; decide) (by rw [hl]; decide) (by rw [hl]; decide) (by rw [hl]; decide)) ?_
  rintro e w59 ⟨bl2, sz2, pe2, place, p59, c59, rfl, hN, hpl9, hd59, hb59⟩
  have m60 := m37.callF 104 rfl hb59 hd59
  refine ⟨_, rfl, ?_⟩; intro Az Hz
  have hc : CmdOk 1 0 bl2 sz2 pe2 0 0 0 place [] := new_cmd hN hpl9
  refine se 22 ?_
  refine ecl Hz Tryz.func29 rfl (rputCmd_x 1 0 bl2 sz2 pe2 0 0 0 place [] _ _ _ _ _ _ ((m60.rd (i := 104) rfl).any) (Rd.l0 _ _ 2) hc) ?_
  rintro e w62 ⟨p62, c62, rfl, hd62, hb62⟩
  have m63 := m60.callF 105 rfl hb62 hd62
  refine ⟨_, rfl, ?_⟩; intro Az Hz
  refine goB hP37 [23, 24, 25, 26, 27] 5 8388607 268435455 Hz (.move rfl <| .extract rfl rfl <| .extract rfl rfl <| .assign rfl <| .assign rfl .nil) fun Az Hz => ?_
  refine wpAnyE_done (by kernel_rfl) ?_ _
  refine hK6 _ _ ?_
  replace Hz := Hz.oz [0, 2, 3, 4, 33, 7]
  refine wp_region_lit ?_
  refine goCh Hz (.move rfl <| .move rfl .nil) fun Az Hz => ?_
  refine plz (ecl Hz Tryz.func31 rfl (rapply_new _ _ L _ _ 0 bl2 sz2 pe2 0 0 0 place [] _ _ _ hL hN hc (m63.into [(1, 1), (2, 2), (3, 105)] (by decide) rfl)) ?_)
  rintro e w73 ⟨p73, c73, rfl, hm73⟩
  have mx73 := m63.back hm73 [(1, 1), (2, 2)] (by decide); clear hm73 m63
  have m73 := mx73.oz [1, 2, 3, 100, 101, 102, 103, 104]
  refine ⟨_, rfl, ?_⟩; intro Az Hz
  refine znl (hK4 _ _ ?_)
  refine wp_region_lit ?_
  refine goCh Hz (.move rfl <| .inc (0 + 4) <| .assign rfl .nil) fun Az Hz => ?_
  refine wpList_nil ?_
  show ∃ n', n' < _ ∧ _
  exact ⟨4 - (0 + 4), by omega, 0 + 4, _, _, _, _, _, .inr ⟨rfl, _, newV_s hN, rfl, rfl, rfl, rfl⟩, rfl, Hz.only [0, 2, 3, 4], m73.ren [(1, 1), (2, 2), (3, 3)] (by decide)⟩
 intro hb15 Hz; try simp only [QQ, Qax] at hb15
 obtain ⟨x, hxS, hxh, hxw, hxf, rfl⟩ : ∃ x : VolV, VolS 4 x ∧ x.hi = false ∧ x.ws = [] ∧ x.fl = 0 ∧ L = [x] := by
   rcases hcs with ⟨h, -⟩ | ⟨-, h⟩
   · exact absurd hb15 (by simp; omega)
   exact h
 refine wcf Hz ?_
 refine wp_exit ?_
 refine hK2 _ _ ?_
 refine wsk fun K7 hK7 => ?_
 refine regS Hz (.move rfl <| .nilCheck rfl <| .fa 0 rfl U75 <| .lb m9 1 U73 rfl rfl rfl <| .len rfl U73 <| .eql rfl rfl .nil) fun Az Hz => ?_
 refine bc Hz 59 ?_ ?_
 · intro hb _; exact absurd hb (by simp)
 clear Hz; intro _ Hz
 refine wcf Hz ?_
 refine zss (hK7 _ _ ?_)
 replace Hz := Hz.oz [0, 2, 3, 4]
 refine zsr fun K8 hK8 => ?_
 refine goCh Hz (.move rfl <| .nilCheck rfl <| .fa 0 rfl U75 <| .lb m9 1 U73 rfl rfl rfl .nil) fun Az Hz => ?_
 obtain ⟨b95, o95, vs95, hp95, hR95, ho95, m95⟩ := m9.openR (i := 2) rfl (0) (r := [.v (.int .i64 x.vo), .v (.int .i64 x.bl), .v (.int .i64 x.sz), .v (.int .i64 x.pe), .ns .i64 x.place, .v (.int .i64 x.to), .v (.int .i64 x.ne), .v (.bool x.hi), .v (.int .i64 x.fl), .ns .i64 x.pins, .l 2 (x.ws.map wrD)]) (volD_get (L := [x]) (by rfl)) 100 rfl
 revert Hz
 cases hp95; clear m9 ho95
 rcases hR95 with _ | ⟨hd95_0, _ | ⟨hd95_1, _ | ⟨hd95_2, _ | ⟨hd95_3, _ | ⟨hd95_4, _ | ⟨hd95_5, _ | ⟨hd95_6, _ | ⟨hd95_7, _ | ⟨hd95_8, _ | ⟨hd95_9, _ | ⟨hd95_10, _ | _⟩⟩⟩⟩⟩⟩⟩⟩⟩⟩⟩
 obtain rfl := hd95_0.v_out
 clear hd95_0
 obtain rfl := hd95_1.v_out
 clear hd95_1
 obtain rfl := hd95_2.v_out
 clear hd95_2
 obtain rfl := hd95_3.v_out
 clear hd95_3
 obtain ⟨p96, c96, hv96, hc96⟩ := hd95_4.ns_shape; subst hv96
 intro Hz
 have m96 := m95.dat 101 rfl (hd95_4.cast (fun _ h => (free_add rfl h))); clear m95 hd95_4
 revert Hz
 obtain rfl := hd95_5.v_out
 clear hd95_5
 obtain rfl := hd95_6.v_out
 clear hd95_6
 obtain rfl := hd95_7.v_out
 clear hd95_7
 obtain rfl := hd95_8.v_out
 clear hd95_8
 obtain ⟨p97, c97, hv97, hc97⟩ := hd95_9.ns_shape; subst hv97
 intro Hz
 have m97 := m96.dat 102 rfl (hd95_9.cast (fun _ h => (free_add rfl (free_add rfl h)))); clear m96 hd95_9
 revert Hz
 obtain ⟨p98, c98, hv98, hc98⟩ := hd95_10.l_shape; subst hv98
 intro Hz
 have m98 := m97.dat 103 rfl (hd95_10.cast (fun _ h => (free_add rfl (free_add rfl (free_add rfl h))))); clear m97 hd95_10
 refine goCh Hz (.c rfl (fun _ h_ => y_idx h_ rfl rfl U73 fct1 (0) rfl (by simp)) <| .loadCR m98 (i := 100) rfl rfl U33 rfl fct1 .nil) fun Az Hz => ?_
 refine plz (stw Hz m98 3 fct1 fun w101 m101 _ => ?_)
 refine znl (hK8 _ _ ?_)
 refine rtd (retC (fn := Tryz.f10) Hz m101 (i := 3) rfl rfl rfl U33 rfl fct1 ?_)
 exact ⟨x, _, _, _, _, _, _, rfl, hxS, hxh, hxw, hxf, m101.outF (i := 101) rfl, m101.outF (i := 102) rfl, m101.outF (i := 103) rfl, m101.below⟩
end Go.Proofs.YtamjnimaeecmoaaGreat.K
