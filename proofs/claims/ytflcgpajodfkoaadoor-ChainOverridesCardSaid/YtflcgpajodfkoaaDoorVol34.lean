/- A volume of numbers: the seat's Volume. It is right and small. -/
import Derived.Test.YtflcgpajodfkoaaDoorVol33
import Derived.Test.YtflcgpajodfkoaaDoorVol17
namespace Go.Proofs.YtflcgpajodfkoaaDoor.K
open Go.ChangeShapes Go.WideShapes Go.ChangeAt Go.RowKit
set_option linter.unusedVariables false
set_option linter.unusedSimpArgs false
theorem fl82sV : flatS Tryd.prog 82 [.slice none 0 0] = true := by kernel_rfl
set_option maxRecDepth 100000
set_option maxHeartbeats 4000000
theorem scmd_no (vo bl sz pe to ne fl : Int) (hi : Bool) (pp pn pw : Option Addr) (np cp nn9 cn9 nw cw : Nat) (wh xa xb xc : Int) (w0 : World) (hvo : 0 ≤ vo ∧ vo ≤ 255) (hw9 : 0 ≤ wh ∧ wh ≤ 255) (ha9 : 0 ≤ xa ∧ xa ≤ 255) (hb9 : 0 ≤ xb ∧ xb ≤ 255) (hc9 : 0 ≤ xc ∧ xc ≤ 255) :
   Calls Tryd.prog 40 #[.agg #[.int .i64 vo, .int .i64 bl, .int .i64 sz, .int .i64 pe, .slice pp np cp, .int .i64 to, .int .i64 ne, .bool hi, .int .i64 fl, .slice pn nn9 cn9, .slice pw nw cw], .bool false, .int .u8 wh, .int .u8 xa, .int .u8 xb, .int .u8 xc] w0 fun e w' => ∃ (vo2 bl2 sz2 pe2 to2 : Int) (place : List Int) (pp : Option Addr) (cp : Nat), e = .returned (.agg #[.int .i64 1, .int .i64 vo2, .int .i64 bl2, .int .i64 sz2, .int .i64 pe2, .slice pp place.length cp, .int .i64 to2, .int .i64 0, .int .i64 0, .slice none 0 0]) ∧ place.length ≤ 9 ∧ Rd (New w0) w' (.slice pp place.length cp) (.ns .i64 place) ∧ Below w0.heap.size w0 w' := by
 refine ent6 Tryd.func40 rfl Tryd.ntmps40 fun Az Hz => ?_
 have m0 := MemOk.start (fun _ => False) w0
 obtain ⟨tq, htq, htq0, htq3⟩ : ∃ x : Int, (xc / 4).tmod 3 = x ∧ 0 ≤ x ∧ x ≤ 2 := ⟨_, rfl, by rw [Int.tmod_eq_emod_of_nonneg (by omega)]; omega, by rw [Int.tmod_eq_emod_of_nonneg (by omega)]; omega⟩
 refine zsr fun K0 hK0 => ?_
 refine wpList_plain rfl (fun K hK => ?_)
 refine e_box Hz m0 20 (cs := [_, _, _, _, _, _, _, _, _, _, _]) rfl rfl rfl ?_
 clear Hz Az m0; intro g1 Az w2 Hz m2 hB2 hg2
 clear hB2 hg2
 refine hK _ _ ?_; clear hK
 refine wpList_plain rfl (fun K hK => ?_)
 refine e_alloc Hz m2 21 fct14 rfl ?_
 clear Hz Az m2; intro g3 Az w4 Hz m4 hB4 hg4
 clear hB4 hg4
 refine hK _ _ ?_; clear hK
 refine znl (hK0 _ _ ?_); clear hK0
 refine wp_seq_k (fun K1 hK1 => ?_)
 refine regS Hz (.move rfl <| .not rfl <| .nil) ?_
 clear Hz Az; intro Az Hz
 refine wp_cond_true (Hz.ev (x := .tmp 16) rfl) ?_
 refine regS Hz (.assign rfl <| .nil) ?_
 clear Hz Az; intro Az Hz
 refine wp_seq_k (fun K2 hK2 => ?_)
 refine regS Hz (.move rfl <| .rem rfl rfl (by decide) rfl <| .eql rfl rfl <| .nil) ?_
 clear Hz Az; intro Az Hz
 refine bool_cases Hz (t := 19) rfl ?_ ?_
 ·
  clear Hz; intro hb11 Hz; try simp only [QQ, Qax] at hb11
  refine wp_cond_true (Hz.ev (x := .tmp 19) rfl) ?_
  replace Hz : Has 131 [(2, _), (3, _), (4, _), (5, _), (6, _), (12, _), (13, _)] Az := Hz.only [2, 3, 4, 5, 6, 12, 13]
  refine wp_region_lit ?_
  refine goCh Hz (.move rfl <| .quo rfl rfl (by decide) (r := xc / 4) (by rw [Int.tdiv_eq_ediv_of_nonneg (by omega)]; exact IntWalk.u8_in _ (by omega)) <| .rem rfl rfl (by decide) (r := tq) htq <| .conv rfl U5 U3 (r := tq) (IntWalk.i64_in _ (by omega)) <| .add rfl rfl (IntWalk.i64_in _ (by omega)) <| .assign rfl <| .nil) ?_
  clear Hz Az; intro Az Hz
  refine znl (hK2 _ _ ?_); clear hK2
  refine zsr fun K3 hK3 => ?_
  refine goCh Hz (.fa 0 rfl U30 <| .lb m4 20 U3 rfl rfl rfl <| .conv rfl U3 U5 (r := vo) (IntWalk.u8_in _ (by omega)) <| .move rfl <| .move rfl <| .move rfl <| .move rfl <| .nil) ?_
  clear Hz Az; intro Az Hz
  refine wpList_plain rfl (fun K hK => ?_)
  refine e_call Hz Tryd.func43 rfl rfl rfl rfl (create_any vo xa xb xc _ _ hvo ha9 hb9 hc9) ?_
  rintro e w33 ⟨bl2, sz2, pe2, place, p33, c33, rfl, -, -, -, -, -, -, -, hpl9, hd33, hb33⟩
  have m34 := m4.callF 22 rfl hb33 hd33
  clear m4
  clear hb33 hd33
  refine ⟨_, rfl, ?_⟩; clear Hz Az; intro Az Hz
  refine hK _ _ ?_; clear hK
  refine wpList_plain rfl (fun K hK => ?_)
  refine e_storeW Hz m34 21 rfl rfl rfl rfl rfl fct11 ?_
  clear m34; intro w36 m36 hB36
  clear hB36
  refine hK _ _ ?_; clear hK
  refine znl (hK3 _ _ ?_); clear hK3
  refine wp_ret ?_
  try dsimp only [Exit.then, Exit.inBlock]
  refine (retC (fn := Tryd.f40) Hz m36 (i := 21) rfl rfl rfl U87 rfl fct11 ?_)
  exact ⟨_, _, _, _, _, place, _, _, rfl, hpl9, m36.outF (i := 22) rfl, m36.below⟩
 clear Hz; intro hb11 Hz; try simp only [QQ, Qax] at hb11
 refine wp_cond_false (Hz.ev (x := .tmp 19) rfl) ?_
 refine zss (hK2 _ _ ?_); clear hK2
 replace Hz : Has 131 [(2, _), (3, _), (4, _), (5, _), (6, _), (12, _), (13, _)] Az := Hz.only [2, 3, 4, 5, 6, 12, 13]
 refine zsr fun K4 hK4 => ?_
 refine goCh Hz (.fa 0 rfl U30 <| .lb m4 20 U3 rfl rfl rfl <| .conv rfl U3 U5 (r := vo) (IntWalk.u8_in _ (by omega)) <| .move rfl <| .move rfl <| .move rfl <| .move rfl <| .nil) ?_
 clear Hz Az; intro Az Hz
 refine wpList_plain rfl (fun K hK => ?_)
 refine e_call Hz Tryd.func43 rfl rfl rfl rfl (create_any vo xa xb xc _ _ hvo ha9 hb9 hc9) ?_
 rintro e w52 ⟨bl2, sz2, pe2, place, p52, c52, rfl, -, -, -, -, -, -, -, hpl9, hd52, hb52⟩
 have m53 := m4.callF 22 rfl hb52 hd52
 clear m4
 clear hb52 hd52
 refine ⟨_, rfl, ?_⟩; clear Hz Az; intro Az Hz
 refine hK _ _ ?_; clear hK
 refine wpList_plain rfl (fun K hK => ?_)
 refine e_storeW Hz m53 21 rfl rfl rfl rfl rfl fct11 ?_
 clear m53; intro w55 m55 hB55
 clear hB55
 refine hK _ _ ?_; clear hK
 refine znl (hK4 _ _ ?_); clear hK4
 refine wp_ret ?_
 try dsimp only [Exit.then, Exit.inBlock]
 refine (retC (fn := Tryd.f40) Hz m55 (i := 21) rfl rfl rfl U87 rfl fct11 ?_)
 exact ⟨_, _, _, _, _, place, _, _, rfl, hpl9, m55.outF (i := 22) rfl, m55.below⟩
theorem scmd_q (n : Nat) (x : VolV) (there : Bool) (p1 p2 p3 : Option Addr) (d1 d2 d3 : Nat) (wh xa xb xc : Int) (w0 : World) (hx : there = true → VolS n x) (hx0 : there = false → x = volZ) (hn : n ≤ 800000) (hw9 : 0 ≤ wh ∧ wh ≤ 255) (ha9 : 0 ≤ xa ∧ xa ≤ 255) (hb9 : 0 ≤ xb ∧ xb ≤ 255) (hc9 : 0 ≤ xc ∧ xc ≤ 255) :
   Calls Tryd.prog 40 #[.agg #[.int .i64 x.vo, .int .i64 x.bl, .int .i64 x.sz, .int .i64 x.pe, .slice p1 x.place.length d1, .int .i64 x.to, .int .i64 x.ne, .bool x.hi, .int .i64 x.fl, .slice p2 x.pins.length d2, .slice p3 (x.ws.map wrD).length d3], .bool there, .int .u8 wh, .int .u8 xa, .int .u8 xb, .int .u8 xc] w0 fun e w' => ∃ (kd vo2 bl2 sz2 pe2 to2 at0 ix : Int) (place : List Int) (it : List (Int × List Int)) (pp : Option Addr) (cp : Nat) (pi : Option Addr) (ci : Nat), e = .returned (.agg #[.int .i64 kd, .int .i64 vo2, .int .i64 bl2, .int .i64 sz2, .int .i64 pe2, .slice pp place.length cp, .int .i64 to2, .int .i64 at0, .int .i64 ix, .slice pi it.length ci]) ∧ place.length ≤ 9 ∧ it.length ≤ 8 ∧ ItsB it ∧ Rd (New w0) w' (.slice pp place.length cp) (.ns .i64 place) ∧ Rd (New w0) w' (.slice pi it.length ci) (.l 2 (it.map itD)) ∧ Below w0.heap.size w0 w' := by
 cases there
 · obtain rfl := hx0 rfl
   refine (scmd_no 0 0 0 0 0 0 0 false p1 p2 p3 0 d1 0 d2 0 d3 wh xa xb xc w0 (by omega) hw9 ha9 hb9 hc9).mono ?_
   rintro e w' ⟨vo2, bl2, sz2, pe2, to2, place, pp, cp, rfl, hp, hd, hb⟩
   exact ⟨1, vo2, bl2, sz2, pe2, to2, 0, 0, place, [], pp, cp, none, 0, rfl, hp, by simp, (fun e h => by cases h), hd, Rd.l0 none 0 2, hb⟩
 obtain ⟨h1, h2, h3, h4, -⟩ := hx rfl
 obtain ⟨vo, bl, sz, pe, place0, to, ne, hi, fl, pins, ws⟩ := x
 simp only at *
 obtain ⟨⟨a1, a2, a3, a4, a5, a6, a7, a8, a9, a10, a11⟩, b1, b2, b3⟩ := h1
 obtain ⟨z, rfl⟩ : ∃ z : Nat, sz = (z : Int) := ⟨sz.toNat, by omega⟩
 refine (scmd_any vo bl z pe to ne fl hi p1 p2 p3 place0.length d1 pins.length d2 (ws.map wrD).length d3 wh xa xb xc w0 (by omega) (by rw [List.length_map]; omega) (by omega) hw9 ha9 hb9 hc9).mono ?_
 rintro e w' ⟨kd, bl2, sz2, pe2, to2, at0, ix, vo2, it, pi, ci, dd, rfl, hkd, hit, hib, hd, hb⟩
 exact ⟨kd, vo2, bl2, sz2, pe2, to2, at0, ix, [], it, none, 0, pi, ci, rfl, by simp, hit, hib, Rd.nilN _ _ .i64 none, hd, hb⟩
theorem svol_any (l : List Int) (pl : Option Addr) (cl : Nat) (w0 : World) (h0 : Rd (fun _ => True) w0 (.slice pl l.length cl) (.ns .u8 l)) (hl : l.length ≤ 100000) (hlb : ∀ j, j < l.length → 0 ≤ l.getD j 0 ∧ l.getD j 0 ≤ 255) :
   Calls Tryd.prog 21 #[.slice pl l.length cl] w0 fun e w' => ∃ (x : VolV) (p1 p2 p3 : Option Addr) (d1 d2 d3 : Nat), e = .returned (.agg #[.int .i64 x.vo, .int .i64 x.bl, .int .i64 x.sz, .int .i64 x.pe, .slice p1 x.place.length d1, .int .i64 x.to, .int .i64 x.ne, .bool x.hi, .int .i64 x.fl, .slice p2 x.pins.length d2, .slice p3 (x.ws.map wrD).length d3]) ∧ VolS l.length x ∧ Rd (New w0) w' (.slice p1 x.place.length d1) (.ns .i64 x.place) ∧ Rd (New w0) w' (.slice p2 x.pins.length d2) (.ns .i64 x.pins) ∧ Rd (New w0) w' (.slice p3 (x.ws.map wrD).length d3) (.l 2 (x.ws.map wrD)) ∧ Below w0.heap.size w0 w' := by
 refine ent1 Tryd.func21 rfl Tryd.ntmps21 fun Az Hz => ?_
 have m0 := MemOk.start (fun _ => False) w0
 refine zsr fun K0 hK0 => ?_
 refine wpList_plain rfl (fun K hK => ?_)
 refine e_alloc Hz m0 20 fct12 rfl ?_
 clear Hz Az m0; intro g1 Az w2 Hz m2 hB2 hg2
 clear hB2 hg2
 refine hK _ _ ?_; clear hK
 refine znl (hK0 _ _ ?_); clear hK0
 refine zsr fun K1 hK1 => ?_
 refine goCh Hz (.build rfl fct35 fl82sV rfl (by dsimp only [setL, List.set] <;> rfl) .nil) ?_
 clear Hz Az; intro Az Hz
 refine wpList_plain rfl (fun K hK => ?_)
 refine e_box Hz m2 21 (cs := [_]) rfl rfl rfl ?_
 clear Hz Az m2; intro g5 Az w6 Hz m6 hB6 hg6
 clear hB6 hg6
 refine hK _ _ ?_; clear hK
 refine goCh Hz (.assign rfl .nil) ?_
 clear Hz Az; intro Az Hz
 refine znl (hK1 _ _ ?_); clear hK1
 refine wp_seq_k (fun K2 hK2 => ?_)
 refine regS Hz (.assign rfl <| .nil) ?_
 clear Hz Az; intro Az Hz
 refine wp_block ?_
 refine wp_loop_ghost (fun g a w => ∃ (i k B2 B c : Nat) (L : List VolV) (p : Option Addr), i ≤ l.length ∧ k ≤ i ∧ g = l.length - i ∧ MacS k L ∧ Has 72 [(0, .slice pl l.length cl), (2, .pointer (some ⟨B2, 0, none⟩)), (3, .pointer (some ⟨B, 0, none⟩)), (4, .int .i64 i)] a ∧ MemOk (cn w0) w0 [(1, .box B 82 [.slice p (L.map volD).length c]), (2, .dat (.slice p (L.map volD).length c) (.l 11 (L.map volD))), (3, .box B2 30 [.int .i64 0, .int .i64 0, .int .i64 0, .int .i64 0, .slice none 0 0, .int .i64 0, .int .i64 0, .bool false, .int .i64 0, .slice none 0 0, .slice none 0 0])] w) (l.length) ?_ ?_
 · have mz := m6.dat 2 rfl (Rd.l0 none 0 11)
   exact ⟨0, 0, _, _, _, [], _, Nat.zero_le _, Nat.zero_le _, rfl, ⟨Nat.zero_le _, fun x h => by cases h⟩, Hz.only [0, 2, 3, 4], mz.ren [(1, 21), (2, 2), (3, 20)] (by decide)⟩
 clear Hz m6
 rintro g Az w9 ⟨i, k, B2, B, c, L, p, hil, hki, hg, hM, Hz, m9⟩
 refine wp_seq_k (fun K3 hK3 => ?_)
 refine regS Hz (.move rfl <| .add rfl rfl (r := ((i + 3 : Nat) : Int)) (by rw [IntWalk.i64_in _ (by omega)]; omega) <| .move rfl <| .len rfl U22 <| .lss rfl rfl <| .nil) ?_
 clear Hz Az; intro Az Hz
 refine bool_cases Hz (t := 17) rfl ?_ ?_
 ·
  clear Hz; intro hb15 Hz; try simp only [QQ, Qax] at hb15
  have hi9 : i + 3 < l.length := by omega
  refine wp_cond_true (Hz.ev (x := .tmp 17) rfl) ?_
  refine zss (hK3 _ _ ?_); clear hK3
  refine wp_seq_k (fun K4 hK4 => ?_)
  refine wp_block ?_
  refine zsr fun K5 hK5 => ?_
  refine goCh Hz (.move rfl .nil) ?_
  clear Hz Az; intro Az Hz
  refine wpList_plain rfl (fun K hK => ?_)
  refine e_call Hz Tryd.func38 rfl rfl rfl rfl (rmVol _ _ L _ _ _ _ (by have := hM.1; omega) (m9.into [(1, 1), (2, 2)] (by decide) rfl)) ?_
  rintro e w18 ⟨x, th, p118, p218, p318, d118, d218, d318, rfl, hx1, hx0, hm18⟩
  have mx18 := m9.back hm18 [(1, 1), (2, 2), (100, 3), (101, 4), (102, 5)] (by decide); clear hm18 m9
  have m18 : MemOk _ _ [(1, _), (2, _), (100, _), (101, _), (102, _), (3, _)] _ := mx18.only [1, 2, 100, 101, 102, 3]; clear mx18
  refine ⟨_, rfl, ?_⟩; clear Hz Az; intro Az Hz
  refine hK _ _ ?_; clear hK
  refine goCh Hz (.move rfl <| .extract rfl rfl <| .extract rfl rfl <| .nil) ?_
  clear Hz Az; intro Az Hz
  refine wpList_plain rfl (fun K hK => ?_)
  refine e_alloc Hz m18 103 fct12 rfl ?_
  clear Hz Az m18; intro g23 Az w24 Hz m24 hB24 hg24
  clear hB24 hg24
  refine hK _ _ ?_; clear hK
  refine wpList_plain rfl (fun K hK => ?_)
  refine e_storeW Hz m24 103 rfl rfl rfl rfl rfl fct10 ?_
  clear m24; intro w25 m25 hB25
  clear hB25
  refine hK _ _ ?_; clear hK
  refine goCh Hz (.assign rfl .nil) ?_
  clear Hz Az; intro Az Hz
  refine znl (hK5 _ _ ?_); clear hK5
  refine wp_seq_k (fun K6 hK6 => ?_)
  replace Hz : Has 72 [(0, _), (2, _), (3, _), (4, _), (5, _), (6, _)] Az := Hz.only [0, 2, 3, 4, 5, 6]
  obtain ⟨gx29, ox29, hp29, hl29, hrg29⟩ := h0.extN (i) (by omega)
  cases hp29; clear hl29
  obtain ⟨gx31, ox31, hp31, hl31, hrg31⟩ := h0.extN (i + 1) (by omega)
  cases hp31; clear hl31
  obtain ⟨gx33, ox33, hp33, hl33, hrg33⟩ := h0.extN (i + 2) (by omega)
  cases hp33; clear hl33
  obtain ⟨gx35, ox35, hp35, hl35, hrg35⟩ := h0.extN (i + 3) (by omega)
  cases hp35; clear hl35
  have m36 : MemOk _ _ [(1, _), (2, _), (3, _), (100, _), (101, _), (102, _), (103, _)] _ := m25.only [1, 2, 3, 100, 101, 102, 103]; clear m25
  refine region_p 21 (B := [(1, _), (2, _), (3, _), (100, _), (101, _), (102, _), (103, _)]) (m36.to ⟨il, il, il, il, il, il, il, trivial⟩) m36 (by kernel_rfl) (fun w37 hP37 m37 => ?_); clear m36
  refine goR hP37 [0, 1, 2, 3, 4, 5, 6, 7, 8, 9, 10, 11, 12, 13, 14, 15, 16, 17, 18, 19, 20] [0, 5, 10, 15, 20] 21 0 2097151 Hz (m37.to ⟨il, il, il, il, il, il, il, trivial⟩) (.loadBR hh (i := 103) rfl rfl U30 rfl fct10 (by simp) (by dsimp only [List.drop, List.take] <;> rfl) <| .move rfl <| .move rfl <| .move rfl <| .p (fun _ _ h => y_idx h rfl rfl U22 fct15 (i) rfl (by omega)) <| .loadAt1 (fun _ h => (hrg29 h rfl)) (q := 0) rfl rfl rfl U5 rfl <| .move rfl <| .move rfl <| .add rfl rfl (r := ((i + 1 : Nat) : Int)) (by rw [IntWalk.i64_in _ (by omega)]; omega) <| .p (fun _ _ h => y_idx h rfl rfl U22 fct15 (i + 1) rfl (by omega)) <| .loadAt1 (fun _ h => (hrg31 h rfl)) (q := 0) rfl rfl rfl U5 rfl <| .move rfl <| .move rfl <| .add rfl rfl (r := ((i + 2 : Nat) : Int)) (by rw [IntWalk.i64_in _ (by omega)]; omega) <| .p (fun _ _ h => y_idx h rfl rfl U22 fct15 (i + 2) rfl (by omega)) <| .loadAt1 (fun _ h => (hrg33 h rfl)) (q := 0) rfl rfl rfl U5 rfl <| .move rfl <| .move rfl <| .add rfl rfl (r := ((i + 3 : Nat) : Int)) (by rw [IntWalk.i64_in _ (by omega)]; omega) <| .p (fun _ _ h => y_idx h rfl rfl U22 fct15 (i + 3) rfl (by omega)) <| .loadAt1 (fun _ h => (hrg35 h rfl)) (q := 0) rfl rfl rfl U5 rfl <| .nil) ?_
  clear Hz Az; intro Az Hz
  refine stepE_end 21 rfl (by kernel_rfl) rfl (by rfl) (fun K hK => ?_)
  refine e_call Hz Tryd.func40 rfl rfl rfl rfl (scmd_q k x th _ _ _ _ _ _ _ _ _ _ _ (fun h => hM.2 _ (hx1 h)) hx0 (by omega) (hlb _ (by omega)) (hlb _ (by omega)) (hlb _ (by omega)) (hlb _ (by omega))) ?_
  rintro e w59 ⟨kd, vo2, bl2, sz2, pe2, to2, at0, ix, place, it, pp59, cp59, pi59, ci59, rfl, hpl9, hit8, hitb, hd59, he59, hb59⟩
  have m60 := m37.callF2 104 105 rfl rfl hb59 hd59 he59
  clear m37
  clear hb59 hd59 he59
  refine ⟨_, rfl, ?_⟩; clear Hz Az; intro Az Hz
  refine hK _ _ ?_; clear hK
  refine stepE_end 22 rfl (by kernel_rfl) rfl (by rfl) (fun K hK => ?_)
  refine e_call Hz Tryd.func39 rfl rfl rfl rfl (rputCmd _ _ _ _ _ _ _ _ place it _ _ _ _ _ _ ((m60.rd (i := 104) rfl).any) ((m60.rd (i := 105) rfl).any) (by omega) (by omega) (fun e he => (hitb e he).2)) ?_
  rintro e w62 ⟨bs, p62, c62, e9, rfl, hbs, hbb, hd62, hb62⟩
  have m63 := m60.callF 106 rfl hb62 hd62
  clear m60
  clear hb62 hd62
  refine ⟨_, rfl, ?_⟩; clear Hz Az; intro Az Hz
  refine hK _ _ ?_; clear hK
  refine goB hP37 [23, 24, 25, 26, 27] 5 8388607 268435455 Hz (.move rfl <| .extract rfl rfl <| .extract rfl rfl <| .assign rfl <| .assign rfl <| .nil) ?_
  clear Hz Az; intro Az Hz
  refine wpAnyE_done (by kernel_rfl) ?_ _
  refine hK6 _ _ ?_; clear hK6
  replace Hz : Has 72 [(0, _), (2, _), (3, _), (4, _), (30, _), (7, _)] Az := Hz.only [0, 2, 3, 4, 30, 7]
  refine wp_region_lit ?_
  refine goCh Hz (.move rfl <| .move rfl <| .nil) ?_
  clear Hz Az; intro Az Hz
  refine wpList_plain rfl (fun K hK => ?_)
  refine e_call Hz Tryd.func41 rfl rfl rfl rfl (rmApply _ _ k L _ _ bs _ _ _ hM (by omega) (by omega) hbb (m63.into [(1, 1), (2, 2), (3, 106)] (by decide) rfl)) ?_
  rintro e w73 ⟨e1, rl1, rf1, rn1, L2, p73, c73, rfl, hM2, hm73⟩
  have mx73 := m63.back hm73 [(1, 1), (2, 2)] (by decide); clear hm73 m63
  have m73 : MemOk _ _ [(1, _), (2, _), (3, _), (100, _), (101, _), (102, _), (103, _), (104, _), (105, _)] _ := mx73.only [1, 2, 3, 100, 101, 102, 103, 104, 105]; clear mx73
  refine ⟨_, rfl, ?_⟩; clear Hz Az; intro Az Hz
  refine hK _ _ ?_; clear hK
  refine znl (hK4 _ _ ?_); clear hK4
  refine wp_region_lit ?_
  refine goCh Hz (.move rfl <| .add rfl rfl (r := ((i + 4 : Nat) : Int)) (by rw [IntWalk.i64_in _ (by omega)]; omega) <| .assign rfl <| .nil) ?_
  clear Hz Az; intro Az Hz
  refine wpList_nil ?_
  show ∃ n', n' < _ ∧ _
  exact ⟨l.length - (i + 4), by omega, i + 4, k + 1, _, _, _, L2, _, by omega, by omega, rfl, hM2, Hz.only [0, 2, 3, 4], m73.ren [(1, 1), (2, 2), (3, 3)] (by decide)⟩
 clear Hz; intro hb15 Hz; try simp only [QQ, Qax] at hb15
 refine wp_cond_false (Hz.ev (x := .tmp 17) rfl) ?_
 refine wp_exit ?_
 refine hK2 _ _ ?_; clear hK2
 refine wp_seq_k (fun K7 hK7 => ?_)
 refine regS Hz (.move rfl <| .nilCheck rfl <| .fa 0 rfl U82 <| .lb m9 1 U80 rfl rfl rfl <| .len rfl U80 <| .eql rfl rfl <| .nil) ?_
 clear Hz Az; intro Az Hz
 refine bool_cases Hz (t := 59) rfl ?_ ?_
 ·
  clear Hz; intro hb84 Hz; try simp only [QQ, Qax] at hb84
  refine wp_cond_true (Hz.ev (x := .tmp 59) rfl) ?_
  replace Hz : Has 72 [(0, _), (2, _), (3, _), (4, _)] Az := Hz.only [0, 2, 3, 4]
  refine zsr fun K8 hK8 => ?_
  refine wpList_plain rfl (fun K hK => ?_)
  refine e_call Hz Tryd.func43 rfl rfl rfl rfl (create_any 0 3 1 1 0 _ (by omega) (by omega) (by omega) (by omega)) ?_
  rintro e w86 ⟨bl2, sz2, pe2, place, p86, c86, rfl, hbl1, hbl9, hsz1, hsz3, hpe1, hpeb, hplc, hpl9, hd86, hb86⟩
  have m87 := m9.callF 100 rfl hb86 hd86
  clear m9
  clear hb86 hd86
  refine ⟨_, rfl, ?_⟩; clear Hz Az; intro Az Hz
  refine hK _ _ ?_; clear hK
  have hN : NewOk (Int.tmod 0 3) bl2 sz2 pe2 0 place := ⟨by decide, by decide, by omega, by omega, by omega, by omega, by omega, by omega, hplc, by omega, by omega⟩
  refine wpList_plain rfl (fun K hK => ?_)
  refine e_call Hz Tryd.func42 rfl rfl rfl rfl (rnew_yes _ _ bl2 sz2 pe2 0 _ _ place _ _ _ _ _ _ ((m87.rd (i := 100) rfl).any) (by omega) hN) ?_
  rintro e w89 ⟨p89, c89, rfl, hd89, hb89⟩
  have m90 := m87.callF 101 rfl hb89 hd89
  clear m87
  clear hb89 hd89
  refine ⟨_, rfl, ?_⟩; clear Hz Az; intro Az Hz
  refine hK _ _ ?_; clear hK
  refine goCh Hz (.move rfl <| .extract rfl rfl <| .extract rfl rfl <| .nil) ?_
  clear Hz Az; intro Az Hz
  refine wpList_plain rfl (fun K hK => ?_)
  refine e_alloc Hz m90 102 fct12 rfl ?_
  clear Hz Az m90; intro g95 Az w96 Hz m96 hB96 hg96
  clear hB96 hg96
  refine hK _ _ ?_; clear hK
  refine wpList_plain rfl (fun K hK => ?_)
  refine e_storeW Hz m96 102 rfl rfl rfl rfl rfl fct10 ?_
  clear m96; intro w97 m97 hB97
  clear hB97
  refine hK _ _ ?_; clear hK
  refine goCh Hz (.assign rfl .nil) ?_
  clear Hz Az; intro Az Hz
  refine znl (hK8 _ _ ?_); clear hK8
  replace Hz : Has 72 [(0, _), (2, _), (3, _), (4, _), (9, _)] Az := Hz.only [0, 2, 3, 4, 9]
  refine zsr fun K9 hK9 => ?_
  refine goCh Hz (.loadBR m97 (i := 102) rfl rfl U30 rfl fct10 (by simp) (by dsimp only [List.drop, List.take] <;> rfl) .nil) ?_
  clear Hz Az; intro Az Hz
  refine wpList_plain rfl (fun K hK => ?_)
  refine e_storeW Hz m97 3 rfl rfl rfl rfl rfl fct10 ?_
  clear m97; intro w102 m102 hB102
  clear hB102
  refine hK _ _ ?_; clear hK
  refine znl (hK9 _ _ ?_); clear hK9
  refine wp_ret ?_
  try dsimp only [Exit.then, Exit.inBlock]
  refine (retC (fn := Tryd.f21) Hz m102 (i := 3) rfl rfl rfl U30 rfl fct10 ?_)
  exact ⟨newV (Int.tmod 0 3) bl2 sz2 pe2 0 place, _, _, _, _, _, _, rfl, newV_s hN, m102.outF (i := 101) rfl, Rd.nilN _ _ .i64 none, Rd.l0 none 0 2, m102.below⟩
 clear Hz; intro hb84 Hz; try simp only [QQ, Qax] at hb84
 have hL0 : 0 < L.length := by simp at hb84; exact List.length_pos_iff.2 hb84
 obtain ⟨x, hes⟩ : ∃ x, L[0]? = some x := ⟨_, List.getElem?_eq_getElem hL0⟩
 refine wp_cond_false (Hz.ev (x := .tmp 59) rfl) ?_
 refine zss (hK7 _ _ ?_); clear hK7
 replace Hz : Has 72 [(0, _), (2, _), (3, _), (4, _)] Az := Hz.only [0, 2, 3, 4]
 refine zsr fun K10 hK10 => ?_
 refine goCh Hz (.move rfl <| .nilCheck rfl <| .fa 0 rfl U82 <| .lb m9 1 U80 rfl rfl rfl <| .nil) ?_
 clear Hz Az; intro Az Hz
 obtain ⟨b113, o113, vs113, hp113, hR113, ho113, m113⟩ := m9.openR (i := 2) rfl (0) (r := [.v (.int .i64 x.vo), .v (.int .i64 x.bl), .v (.int .i64 x.sz), .v (.int .i64 x.pe), .ns .i64 x.place, .v (.int .i64 x.to), .v (.int .i64 x.ne), .v (.bool x.hi), .v (.int .i64 x.fl), .ns .i64 x.pins, .l 2 (x.ws.map wrD)]) (volD_get hes) 100 rfl
 cases hp113; clear m9 ho113
 rcases hR113 with _ | ⟨hd113_0, _ | ⟨hd113_1, _ | ⟨hd113_2, _ | ⟨hd113_3, _ | ⟨hd113_4, _ | ⟨hd113_5, _ | ⟨hd113_6, _ | ⟨hd113_7, _ | ⟨hd113_8, _ | ⟨hd113_9, _ | ⟨hd113_10, _ | _⟩⟩⟩⟩⟩⟩⟩⟩⟩⟩⟩
 obtain rfl := hd113_0.v_out
 clear hd113_0
 obtain rfl := hd113_1.v_out
 clear hd113_1
 obtain rfl := hd113_2.v_out
 clear hd113_2
 obtain rfl := hd113_3.v_out
 clear hd113_3
 obtain ⟨p114, c114, hv114, hc114⟩ := hd113_4.ns_shape; subst hv114
 have m114 := m113.dat 101 rfl (hd113_4.cast (fun _ h => (free_add rfl h))); clear m113 hd113_4
 obtain rfl := hd113_5.v_out
 clear hd113_5
 obtain rfl := hd113_6.v_out
 clear hd113_6
 obtain rfl := hd113_7.v_out
 clear hd113_7
 obtain rfl := hd113_8.v_out
 clear hd113_8
 obtain ⟨p115, c115, hv115, hc115⟩ := hd113_9.ns_shape; subst hv115
 have m115 := m114.dat 102 rfl (hd113_9.cast (fun _ h => (free_add rfl (free_add rfl h)))); clear m114 hd113_9
 obtain ⟨p116, c116, hv116, hc116⟩ := hd113_10.l_shape; subst hv116
 have m116 := m115.dat 103 rfl (hd113_10.cast (fun _ h => (free_add rfl (free_add rfl (free_add rfl h))))); clear m115 hd113_10
 refine goCh Hz (.c rfl (fun _ h => y_idx h rfl rfl U80 fct10 (0) rfl (by simpa using hL0)) <| .loadCR m116 (i := 100) rfl rfl U30 rfl fct10 <| .nil) ?_
 clear Hz Az; intro Az Hz
 refine wpList_plain rfl (fun K hK => ?_)
 refine e_storeW Hz m116 3 rfl rfl rfl rfl rfl fct10 ?_
 clear m116; intro w119 m119 hB119
 clear hB119
 refine hK _ _ ?_; clear hK
 refine znl (hK10 _ _ ?_); clear hK10
 refine wp_ret ?_
 try dsimp only [Exit.then, Exit.inBlock]
 refine (retC (fn := Tryd.f21) Hz m119 (i := 3) rfl rfl rfl U30 rfl fct10 ?_)
 exact ⟨x, _, _, _, _, _, _, rfl, (hM.2 _ (List.mem_of_getElem? hes)).up (by omega), m119.outF (i := 101) rfl, m119.outF (i := 102) rfl, m119.outF (i := 103) rfl, m119.below⟩
end Go.Proofs.YtflcgpajodfkoaaDoor.K
