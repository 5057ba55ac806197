/- General laws of walks. -/
import Derived.Test.YtkehgingagggaaaGreatG24
import Derived.Test.YtkehgingagggaaaGreatG25
import Derived.Test.YtkehgingagggaaaGreatG9
namespace Go.Proofs.YtkehgingagggaaaGreat.K
open Go.ChangeShapes Go.WideShapes Go.ChangeAt Go.RowKit
set_option linter.unusedVariables false
set_option linter.unusedSimpArgs false
section
theorem fl32zCs : flatS Tryz.prog 32 [.slice none 0 0] = true := by kernel_rfl
def CsR (cs : List Cm) : Prop := ∀ c ∈ cs, CmdR c ∧ ItsB c.its
theorem csR_snoc {cs : List Cm} {c : Cm} (h : CsR cs) (hc : CmdR c) (hb : ItsB c.its) : CsR (cs ++ [c]) := fun x hx => by
 rcases List.mem_append.1 hx with hx | hx
 · exact h x hx
 simp at hx; subst hx; exact ⟨hc, hb⟩
open Classical in
theorem rrL_snoc {cs : List Cm} {c : Cm} (h : CmdR c) : rrL (cs ++ [c]) = (rApp (rrL cs) c).1 := by
 rw [rrL, List.foldl_append]
 show (if CmdR c then _ else _) = _
 rw [if_pos h]; rfl
theorem cmdR_new {vx bx sx to bl sz pe : Int} {pl : List Int} (hv : 0 ≤ vx ∧ vx ≤ 255) (hb : 0 ≤ bx ∧ bx ≤ 255) (hs : 0 ≤ sx ∧ sx ≤ 255) (h1 : bl = bx.tmod 9 + 1) (h2 : sz = sx.tmod 3 + 1) (h3 : 1 ≤ pe) (h4 : pe ≤ bl) (h5 : PlaceOk bl pe pl) (h6 : pl.length ≤ 9) (h7 : 0 ≤ to ∧ to ≤ 1000) : CmdR ⟨1, vx.tmod 3, bl, sz, pe, pl, to, 0, 0, []⟩ := by
 rw [Int.tmod_eq_emod_of_nonneg hb.1] at h1
 rw [Int.tmod_eq_emod_of_nonneg hs.1] at h2
 rw [Int.tmod_eq_emod_of_nonneg hv.1]
 exact ⟨by dsimp only; omega, by dsimp only; omega, by dsimp only; omega, by dsimp only; omega, (fun z hz => by have := h5.1 z hz; omega), by simp, (fun e he => by cases he)⟩
set_option maxRecDepth 100000
set_option maxHeartbeats 4000000
theorem scmd_n (vo bl sz pe to ne fl : Int) (hi : Bool) (pp pn pw : Option Addr) (np cp nn9 cn9 nw cw : Nat) (wh xa xb xc : Int) (w0 : World) (hvo : 0 ≤ vo ∧ vo ≤ 255) (hw9 : 0 ≤ wh ∧ wh ≤ 255) (ha9 : 0 ≤ xa ∧ xa ≤ 255) (hb9 : 0 ≤ xb ∧ xb ≤ 255) (hc9 : 0 ≤ xc ∧ xc ≤ 255) :
   Calls Tryz.prog 41 #[.agg #[.int .i64 vo, .int .i64 bl, .int .i64 sz, .int .i64 pe, .slice pp np cp, .int .i64 to, .int .i64 ne, .bool hi, .int .i64 fl, .slice pn nn9 cn9, .slice pw nw cw], .bool false, .int .u8 wh, .int .u8 xa, .int .u8 xb, .int .u8 xc] w0 fun e w' => ∃ (vo2 bl2 sz2 pe2 to2 : Int) (place : List Int) (pp : Option Addr) (cp : Nat), e = .returned (.agg #[.int .i64 1, .int .i64 vo2, .int .i64 bl2, .int .i64 sz2, .int .i64 pe2, .slice pp place.length cp, .int .i64 to2, .int .i64 0, .int .i64 0, .slice none 0 0]) ∧ CmdR ⟨1, vo2, bl2, sz2, pe2, place, to2, 0, 0, []⟩ ∧ Rd (New w0) w' (.slice pp place.length cp) (.ns .i64 place) ∧ Below w0.heap.size w0 w' := by
 refine ent6 Tryz.func41 rfl Tryz.ntmps41 fun Az Hz => ?_
 have m0 := MemOk.start (fun _ => False) w0
 obtain ⟨tq, htq, htq0, htq3⟩ : ∃ x : Int, (xc / 4).tmod 3 = x ∧ 0 ≤ x ∧ x ≤ 2 := ⟨_, rfl, by rw [Int.tmod_eq_emod_of_nonneg (by omega)]; omega, by rw [Int.tmod_eq_emod_of_nonneg (by omega)]; omega⟩
 refine zsr fun K0 hK0 => ?_
 refine plz (e_box Hz m0 20 (cs := [_, _, _, _, _, _, _, _, _, _, _]) rfl rfl rfl fun g1 Az w2 Hz m2 _ _ => ?_)
 refine plz (e_alloc Hz m2 21 fct24 rfl fun g3 Az w4 Hz m4 _ _ => ?_)
 refine znl (hK0 _ _ ?_)
 refine wsk fun K1 hK1 => ?_
 refine regS Hz (.move rfl <| .not rfl .nil) fun Az Hz => ?_
 refine wct Hz ?_
 refine regS Hz (.assign rfl .nil) fun Az Hz => ?_
 refine wsk fun K2 hK2 => ?_
 refine regS Hz (.move rfl <| .rem rfl rfl (by decide) rfl <| .eql rfl rfl .nil) fun Az Hz => ?_
 refine bc Hz 19 ?_ ?_
 ·
  intro hb11 Hz; try simp only [QQ, Qax] at hb11
  refine wct Hz ?_
  replace Hz := Hz.oz [2, 3, 4, 5, 6, 12, 13]
  refine wp_region_lit ?_
  refine gz hK2 Hz (.move rfl <| .quo rfl rfl (by decide) (r := xc / 4) (by rw [Int.tdiv_eq_ediv_of_nonneg (by omega)]; exact IntWalk.u8_in _ (by omega)) <| .rem rfl rfl (by decide) (r := tq) htq <| .conv rfl U5 U3 (r := tq) (IntWalk.i64_in _ (by omega)) <| .add rfl rfl (IntWalk.i64_in _ (by omega)) <| .assign rfl <| .nil) fun Az Hz => ?_
  refine zsr fun K3 hK3 => ?_
  refine goCh Hz (.fa 0 rfl U51 <| .lb m4 20 U3 rfl rfl rfl <| .conv rfl U3 U5 (r := vo) (IntWalk.u8_in _ (by omega)) <| .move rfl <| .move rfl <| .move rfl <| .move rfl .nil) fun Az Hz => ?_
  refine plz (ecl Hz Tryz.func42 rfl (create_e vo xa xb xc _ _ hvo ha9 hb9 hc9) ?_)
  rintro e w33 ⟨bl2, sz2, pe2, place, p33, c33, rfl, hbl2, hsz2, hpe1, hpe2, hpo, hpl9, hd33, hb33⟩
  have m34 := m4.callF 22 rfl hb33 hd33
  refine ⟨_, rfl, ?_⟩; intro Az Hz
  refine plz (stw Hz m34 21 fct19 fun w36 m36 _ => ?_)
  refine znl (hK3 _ _ ?_)
  refine rtd (retC (fn := Tryz.f41) Hz m36 (i := 21) rfl rfl rfl U38 rfl fct19 ?_)
  exact ⟨_, _, _, _, _, place, _, _, rfl, cmdR_new hvo ha9 hb9 hbl2 hsz2 hpe1 hpe2 hpo hpl9 (by omega), m36.outF (i := 22) rfl, m36.below⟩
 intro hb11 Hz; try simp only [QQ, Qax] at hb11
 refine wcf Hz ?_
 refine zss (hK2 _ _ ?_)
 replace Hz := Hz.oz [2, 3, 4, 5, 6, 12, 13]
 refine zsr fun K4 hK4 => ?_
 refine goCh Hz (.fa 0 rfl U51 <| .lb m4 20 U3 rfl rfl rfl <| .conv rfl U3 U5 (r := vo) (IntWalk.u8_in _ (by omega)) <| .move rfl <| .move rfl <| .move rfl <| .move rfl .nil) fun Az Hz => ?_
 refine plz (ecl Hz Tryz.func42 rfl (create_e vo xa xb xc _ _ hvo ha9 hb9 hc9) ?_)
 rintro e w52 ⟨bl2, sz2, pe2, place, p52, c52, rfl, hbl2, hsz2, hpe1, hpe2, hpo, hpl9, hd52, hb52⟩
 have m53 := m4.callF 22 rfl hb52 hd52
 refine ⟨_, rfl, ?_⟩; intro Az Hz
 refine plz (stw Hz m53 21 fct19 fun w55 m55 _ => ?_)
 refine znl (hK4 _ _ ?_)
 refine rtd (retC (fn := Tryz.f41) Hz m55 (i := 21) rfl rfl rfl U38 rfl fct19 ?_)
 exact ⟨_, _, _, _, _, place, _, _, rfl, cmdR_new hvo ha9 hb9 hbl2 hsz2 hpe1 hpe2 hpo hpl9 (by omega), m55.outF (i := 22) rfl, m55.below⟩
theorem scmd_p (n : Nat) (x : VolV) (there : Bool) (p1 p2 p3 : Option Addr) (d1 d2 d3 : Nat) (wh xa xb xc : Int) (w0 : World) (hx : there = true → VolS n x) (hx0 : there = false → x = volZ) (hn : n ≤ 800000) (hw9 : 0 ≤ wh ∧ wh ≤ 255) (ha9 : 0 ≤ xa ∧ xa ≤ 255) (hb9 : 0 ≤ xb ∧ xb ≤ 255) (hc9 : 0 ≤ xc ∧ xc ≤ 255) :
   Calls Tryz.prog 41 #[.agg #[.int .i64 x.vo, .int .i64 x.bl, .int .i64 x.sz, .int .i64 x.pe, .slice p1 x.place.length d1, .int .i64 x.to, .int .i64 x.ne, .bool x.hi, .int .i64 x.fl, .slice p2 x.pins.length d2, .slice p3 (x.ws.map wrD).length d3], .bool there, .int .u8 wh, .int .u8 xa, .int .u8 xb, .int .u8 xc] w0 fun e w' => ∃ (kd vo2 bl2 sz2 pe2 to2 at0 ix : Int) (place : List Int) (it : List (Int × List Int)) (pp : Option Addr) (cp : Nat) (pi : Option Addr) (ci : Nat), e = .returned (.agg #[.int .i64 kd, .int .i64 vo2, .int .i64 bl2, .int .i64 sz2, .int .i64 pe2, .slice pp place.length cp, .int .i64 to2, .int .i64 at0, .int .i64 ix, .slice pi it.length ci]) ∧ CmdR ⟨kd, vo2, bl2, sz2, pe2, place, to2, at0, ix, it⟩ ∧ ItsB it ∧ Rd (New w0) w' (.slice pp place.length cp) (.ns .i64 place) ∧ Rd (New w0) w' (.slice pi it.length ci) (.l 2 (it.map itD)) ∧ Below w0.heap.size w0 w' := by
 cases there
 · obtain rfl := hx0 rfl
   refine (scmd_n 0 0 0 0 0 0 0 false p1 p2 p3 0 d1 0 d2 0 d3 wh xa xb xc w0 (by omega) hw9 ha9 hb9 hc9).mono ?_
   rintro e w' ⟨vo2, bl2, sz2, pe2, to2, place, pp, cp, rfl, hR, hd, hb⟩
   exact ⟨1, vo2, bl2, sz2, pe2, to2, 0, 0, place, [], pp, cp, none, 0, rfl, hR, (fun e h => by cases h), hd, Rd.l0 none 0 2, hb⟩
 obtain ⟨h1, h2, h3, h4, -⟩ := hx rfl
 obtain ⟨vo, bl, sz, pe, place0, to, ne, hi, fl, pins, ws⟩ := x
 simp only at *
 obtain ⟨⟨a1, a2, a3, a4, a5, a6, a7, a8, a9, a10, a11⟩, b1, b2, b3⟩ := h1
 obtain ⟨z, rfl⟩ : ∃ z : Nat, sz = (z : Int) := ⟨sz.toNat, by omega⟩
 refine (scmd_r vo bl z pe to ne fl hi p1 p2 p3 place0.length d1 pins.length d2 (ws.map wrD).length d3 wh xa xb xc w0 (by omega) (by omega) (by omega) (by rw [List.length_map]; omega) (by omega) hw9 ha9 hb9 hc9).mono ?_
 rintro e w' ⟨kd, at0, ix, it, pi, ci, rfl, hkd, hR, hib, hd, hb⟩
 exact ⟨kd, vo, 0, 0, 0, 0, at0, ix, [], it, none, 0, pi, ci, rfl, hR, hib, Rd.nilN _ _ .i64 none, hd, hb⟩
theorem scmd_v (n : Nat) (id : Int) (x : VolV) (there : Bool) (p1 p2 p3 : Option Addr) (d1 d2 d3 : Nat) (wh xa xb xc : Int) (w0 : World) (hx : there = true → VolS n x) (hx0 : there = false → x = volZ) (hn : n ≤ 800000) (hid : 0 ≤ id ∧ id ≤ 2) (hw9 : 0 ≤ wh ∧ wh ≤ 255) (ha9 : 0 ≤ xa ∧ xa ≤ 255) (hb9 : 0 ≤ xb ∧ xb ≤ 255) (hc9 : 0 ≤ xc ∧ xc ≤ 255) :
   Calls Tryz.prog 41 #[.agg #[.int .i64 id, .int .i64 x.bl, .int .i64 x.sz, .int .i64 x.pe, .slice p1 x.place.length d1, .int .i64 x.to, .int .i64 x.ne, .bool x.hi, .int .i64 x.fl, .slice p2 x.pins.length d2, .slice p3 (x.ws.map wrD).length d3], .bool there, .int .u8 wh, .int .u8 xa, .int .u8 xb, .int .u8 xc] w0 fun e w' => ∃ (kd vo2 bl2 sz2 pe2 to2 at0 ix : Int) (place : List Int) (it : List (Int × List Int)) (pp : Option Addr) (cp : Nat) (pi : Option Addr) (ci : Nat), e = .returned (.agg #[.int .i64 kd, .int .i64 vo2, .int .i64 bl2, .int .i64 sz2, .int .i64 pe2, .slice pp place.length cp, .int .i64 to2, .int .i64 at0, .int .i64 ix, .slice pi it.length ci]) ∧ CmdR ⟨kd, vo2, bl2, sz2, pe2, place, to2, at0, ix, it⟩ ∧ ItsB it ∧ Rd (New w0) w' (.slice pp place.length cp) (.ns .i64 place) ∧ Rd (New w0) w' (.slice pi it.length ci) (.l 2 (it.map itD)) ∧ Below w0.heap.size w0 w' := by
 cases there
 · obtain rfl := hx0 rfl
   refine (scmd_n id 0 0 0 0 0 0 false p1 p2 p3 0 d1 0 d2 0 d3 wh xa xb xc w0 (by omega) hw9 ha9 hb9 hc9).mono ?_
   rintro e w' ⟨vo2, bl2, sz2, pe2, to2, place, pp, cp, rfl, hR, hd, hb⟩
   exact ⟨1, vo2, bl2, sz2, pe2, to2, 0, 0, place, [], pp, cp, none, 0, rfl, hR, (fun e h => by cases h), hd, Rd.l0 none 0 2, hb⟩
 exact scmd_p n { x with vo := id } true p1 p2 p3 d1 d2 d3 wh xa xb xc w0 (fun _ => vols_id (hx rfl) hid) (fun h => by cases h) hn hw9 ha9 hb9 hc9
theorem scmds_r (l : List Int) (pl : Option Addr) (cl : Nat) (w0 : World) (h0 : Rd (fun _ => True) w0 (.slice pl l.length cl) (.ns .u8 l)) (hl : l.length ≤ 100000) (hlb : ∀ j, j < l.length → 0 ≤ l.getD j 0 ∧ l.getD j 0 ≤ 255) :
   Calls Tryz.prog 10 #[.slice pl l.length cl] w0 fun e w' => ∃ (cs : List Cm) (p : Option Addr) (c : Nat), e = .returned (.slice p (cs.map cmD).length c) ∧ 4 * cs.length ≤ l.length ∧ CsR cs ∧ RowOk w0.heap.size (fun b => Out (fun _ => False) w0 b ∧ (Value.slice p (cs.map cmD).length c).ownBlock ≠ some b) w' (.slice p (cs.map cmD).length c) 38 10 (cs.map cmD) ∧ Below w0.heap.size w0 w' := by
 refine ent1 Tryz.func10 rfl Tryz.ntmps10 fun Az Hz => ?_
 have m0 := MemOk.start (fun _ => False) w0
 refine regS Hz (.assign rfl .nil) fun Az Hz => ?_
 refine zsr fun K0 hK0 => ?_
 refine goCh Hz (.build rfl fct39 fl32zCs rfl (by dsimp only [setL, List.set] <;> rfl) .nil) fun Az Hz => ?_
 refine plz (e_box Hz m0 40 (cs := [_]) rfl rfl rfl fun g4 Az w5 Hz m5 _ _ => ?_)
 refine gz hK0 Hz (.assign rfl .nil) fun Az Hz => ?_
 refine regS Hz (.assign rfl .nil) fun Az Hz => ?_
 refine wsk fun K1 hK1 => ?_
 refine regS Hz (.assign rfl .nil) fun Az Hz => ?_
 refine wp_block ?_
 refine wp_loop_ghost (fun g a w => ∃ (i k B c d : Nat) (L : List VolV) (cs : List Cm) (p q : Option Addr), i ≤ l.length ∧ 4 * k ≤ i ∧ cs.length = k ∧ CsR cs ∧ L = rrL cs ∧ (∀ y ∈ L, VolS k y) ∧ L.length ≤ k ∧ SrtV L ∧ g = l.length - i ∧ Has 71 [(0, .slice pl l.length cl), (3, .pointer (some ⟨B, 0, none⟩)), (4, .slice q (cs.map cmD).length d), (5, .int .i64 i)] a ∧ MemOk (cn w0) w0 [(1, .box B 32 [.slice p (L.map volD).length c]), (2, .dat (.slice p (L.map volD).length c) (.l 11 (L.map volD))), (3, .row (.slice q (cs.map cmD).length d) 38 10 (cs.map cmD))] w) (l.length) ?_ ?_
 · have mz := (m5.dat 2 rfl (Rd.l0 none 0 11)).nilR 33 38 10
   exact ⟨0, 0, _, _, _, [], [], _, _, Nat.zero_le _, Nat.zero_le _, rfl, (fun x h => by cases h), rfl, (fun y hy => by cases hy), Nat.zero_le _, List.Pairwise.nil, rfl, Hz.only [0, 3, 4, 5], mz.ren [(1, 40), (2, 2), (3, 33)] (by decide)⟩
 clear Hz m5
 rintro g Az w9 ⟨i, k, B, c, d, L, cs, p, q, hil, hki, hlen, hcs, hLc, hV, hLl, hS, hg, Hz, m9⟩
 refine wsk fun K2 hK2 => ?_
 refine regS Hz (.move rfl <| .inc (i + 3) <| .move rfl <| .len rfl U22 <| .lss rfl rfl .nil) fun Az Hz => ?_
 refine bc Hz 18 ?_ ?_
 ·
  intro hb15 Hz; try simp only [QQ, Qax] at hb15
  have hi9 : i + 3 < l.length := by omega
  have h9b := hlb i (by omega)
  obtain ⟨id, hid, hid0⟩ : ∃ x : Int, (l.getD i 0 / 16).tmod 3 = x ∧ 0 ≤ x ∧ x ≤ 2 := ⟨_, rfl, by rw [Int.tmod_eq_emod_of_nonneg (by omega)]; omega, by rw [Int.tmod_eq_emod_of_nonneg (by omega)]; omega⟩
  refine wct Hz ?_
  refine zss (hK2 _ _ ?_)
  refine wsk fun K3 hK3 => ?_
  refine wp_block ?_
  refine zsr fun K4 hK4 => ?_
  refine goCh Hz (.move rfl <| .move rfl .nil) fun Az Hz => ?_
  obtain ⟨gx21, ox21, hp21, hl21, hrg21⟩ := h0.extN (i) (by omega)
  revert Hz
  cases hp21
  intro Hz
  refine gz hK4 Hz (.c rfl (fun _ h_ => y_idx h_ rfl rfl U22 fct23 (i) rfl (by omega)) <| .loadAt1 (hrg21 m9 rfl) (q := 0) rfl rfl rfl U5 rfl <| .quo rfl rfl (by decide) (r := l.getD i 0 / 16) (by rw [Int.tdiv_eq_ediv_of_nonneg (by omega)]; exact IntWalk.u8_in _ (by omega)) <| .conv rfl U5 U3 (r := l.getD i 0 / 16) (IntWalk.i64_in _ (by omega)) <| .rem rfl rfl (by decide) (r := id) hid <| .assign rfl <| .nil) fun Az Hz => ?_
  replace Hz := Hz.oz [0, 3, 4, 5, 6]
  refine zsr fun K5 hK5 => ?_
  refine goCh Hz (.move rfl <| .move rfl .nil) fun Az Hz => ?_
  refine plz (ecl Hz Tryz.func19 rfl (rmVol _ _ L _ _ _ _ (by omega) (m9.into [(1, 1), (2, 2)] (by decide) rfl)) ?_)
  rintro e w33 ⟨x, th, p133, p233, p333, d133, d233, d333, rfl, hx1, hx0, hm33⟩
  have mx33 := m9.back hm33 [(1, 1), (2, 2), (100, 3), (101, 4), (102, 5)] (by decide); clear hm33 m9
  have m33 := mx33.oz [1, 2, 100, 101, 102, 3]
  refine ⟨_, rfl, ?_⟩; intro Az Hz
  refine goCh Hz (.move rfl <| .extract rfl rfl <| .extract rfl rfl .nil) fun Az Hz => ?_
  refine plz (e_alloc Hz m33 103 fct14 rfl fun g38 Az w39 Hz m39 _ _ => ?_)
  refine plz (stw Hz m39 103 fct13 fun w40 m40 _ => ?_)
  refine gz hK5 Hz (.assign rfl .nil) fun Az Hz => ?_
  replace Hz := Hz.oz [0, 3, 4, 5, 6, 7, 8]
  refine zsr fun K6 hK6 => ?_
  refine goCh Hz (.move rfl <| .fa 0 rfl U51 .nil) fun Az Hz => ?_
  refine plz (st1 Hz m40 103 fct15 fun w47 m47 _ => ?_)
  refine znl (hK6 _ _ ?_)
  refine wsk fun K7 hK7 => ?_
  obtain ⟨gx49, ox49, hp49, hl49, hrg49⟩ := h0.extN (i) (by omega)
  revert Hz
  cases hp49
  intro Hz
  obtain ⟨gx51, ox51, hp51, hl51, hrg51⟩ := h0.extN (i + 1) (by omega)
  revert Hz
  cases hp51
  intro Hz
  obtain ⟨gx53, ox53, hp53, hl53, hrg53⟩ := h0.extN (i + 2) (by omega)
  revert Hz
  cases hp53
  intro Hz
  obtain ⟨gx55, ox55, hp55, hl55, hrg55⟩ := h0.extN (i + 3) (by omega)
  revert Hz
  cases hp55
  intro Hz
  have m56 := m47.oz [1, 2, 3, 100, 101, 102, 103]
  refine region_p 21 (B := [(1, _), (2, _), (3, _), (100, _), (101, _), (102, _), (103, _)]) (m56.to ⟨il, il, il, il, il, il, il, trivial⟩) m56 (by kernel_rfl) (fun w57 hP57 m57 => ?_); clear m56
  refine goR hP57 [0, 1, 2, 3, 4, 5, 6, 7, 8, 9, 10, 11, 12, 13, 14, 15, 16, 17, 18, 19, 20] [0, 5, 10, 15, 20] 21 0 2097151 Hz (m57.to ⟨il, il, il, il, il, il, il, trivial⟩) (.loadBR hh (i := 103) rfl rfl U51 rfl fct13 (by simp) (by dsimp only [List.drop, List.take] <;> rfl) <| .move rfl <| .move rfl <| .move rfl <| .p (fun _ _ h_ => y_idx h_ rfl rfl U22 fct23 (i) rfl (by omega)) <| .loadAt1 (fun _ h_ => (hrg49 h_ rfl)) (q := 0) rfl rfl rfl U5 rfl <| .move rfl <| .move rfl <| .add rfl rfl (r := ((i + 1 : Nat) : Int)) (by rw [IntWalk.i64_in _ (by omega)]; omega) <| .p (fun _ _ h_ => y_idx h_ rfl rfl U22 fct23 (i + 1) rfl (by omega)) <| .loadAt1 (fun _ h_ => (hrg51 h_ rfl)) (q := 0) rfl rfl rfl U5 rfl <| .move rfl <| .move rfl <| .add rfl rfl (r := ((i + 2 : Nat) : Int)) (by rw [IntWalk.i64_in _ (by omega)]; omega) <| .p (fun _ _ h_ => y_idx h_ rfl rfl U22 fct23 (i + 2) rfl (by omega)) <| .loadAt1 (fun _ h_ => (hrg53 h_ rfl)) (q := 0) rfl rfl rfl U5 rfl <| .move rfl <| .move rfl <| .add rfl rfl (r := ((i + 3 : Nat) : Int)) (by rw [IntWalk.i64_in _ (by omega)]; omega) <| .p (fun _ _ h_ => y_idx h_ rfl rfl U22 fct23 (i + 3) rfl (by omega)) <| .loadAt1 (fun _ h_ => (hrg55 h_ rfl)) (q := 0) rfl rfl rfl U5 rfl .nil) fun Az Hz => ?_
  refine dtw 21 22 ?_ ?_
  ·
   refine ecl Hz Tryz.func41 rfl (scmd_v k id x th _ _ _ _ _ _ _ _ _ _ _ (fun h => hV _ (hx1 h)) hx0 (by omega) (by omega) (hlb _ (by omega)) (hlb _ (by omega)) (hlb _ (by omega)) (hlb _ (by omega))) ?_
   rintro e w79 ⟨kd, vo2, bl2, sz2, pe2, to2, at0, ix, place, it, pp9, cp9, pi9, ci9, rfl, hR, hitb, hd79, he79, hb79⟩
   have m80 := m57.callF2 104 105 rfl rfl hb79 hd79 he79
   refine ⟨_, rfl, ?_⟩; intro Az Hz
   refine ⟨fun h => (Bool.false_ne_true (h.symm.trans (by rfl))).elim, ?_⟩
   refine se 22 ?_
   refine e_alloc Hz m80 106 fct24 rfl fun g82 Az w83 Hz m83 _ _ => ?_
   refine se 23 ?_
   refine stw Hz m83 106 fct19 fun w84 m84 _ => ?_
   refine wpAnyE_done (by kernel_rfl) ?_ _
   refine hK7 _ _ ?_
   replace Hz := Hz.oz [0, 3, 4, 5, 9]
   refine zsr fun K8 hK8 => ?_
   refine goCh Hz (.loadBR m84 (i := 106) rfl rfl U38 rfl fct19 (by simp) (by dsimp only [List.drop, List.take] <;> rfl) .nil) fun Az Hz => ?_
   refine plz (ecl Hz Tryz.func12 rfl (rputCmd_x kd vo2 bl2 sz2 pe2 to2 at0 ix place it _ _ _ _ _ _ ((m84.rd (i := 104) rfl).any) ((m84.rd (i := 105) rfl).any) (hR.ok (fun e he => (hitb e he).2))) ?_)
   rintro e w88 ⟨p88, c88, rfl, hd88, hb88⟩
   have m89 := m84.callF 107 rfl hb88 hd88
   refine ⟨_, rfl, ?_⟩; intro Az Hz
   refine gz hK8 Hz (.move rfl <| .extract rfl rfl <| .extract rfl rfl <| .assign rfl <| .assign rfl <| .nil) fun Az Hz => ?_
   replace Hz := Hz.oz [0, 3, 4, 5, 9, 10]
   refine zsr fun K9 hK9 => ?_
   refine goCh Hz (.move rfl <| .move rfl .nil) fun Az Hz => ?_
   refine plz (ecl Hz Tryz.func15 rfl (rapply_e _ _ k L _ _ kd vo2 bl2 sz2 pe2 to2 at0 ix place it _ _ _ hV (by omega) (by omega) hS.nodup (hR.ok (fun e he => (hitb e he).2)) (m89.into [(1, 1), (2, 2), (3, 107)] (by decide) rfl)) ?_)
   rintro e w101 ⟨L2, e1, rl1, rf1, rn1, p101, c101, rfl, hap, hm101⟩
   have mx101 := m89.back hm101 [(1, 1), (2, 2)] (by decide); clear hm101 m89
   have m101 := mx101.oz [1, 2, 3, 100, 101, 102, 103, 104, 105, 106]
   refine ⟨_, rfl, ?_⟩; intro Az Hz
   refine znl (hK9 _ _ ?_)
   refine wp_region_lit ?_
   refine goCh Hz (.move rfl <| .loadBR m101 (i := 106) rfl rfl U38 rfl fct19 (by simp) (by dsimp only [List.drop, List.take] <;> rfl) .nil) fun Az Hz => ?_
   refine plz (e_litR Hz m101 108 (mm := 10) rfl (.cons rfl rfl (.cons (.v _) (.cons (.v _) (.cons (.v _) (.cons (.v _) (.cons (.v _) (.cons (m101.rd (i := 104) rfl) (.cons (.v _) (.cons (.v _) (.cons (.v _) (.cons (m101.rd (i := 105) rfl) .nil)))))))))) .nil) U24 fct36 rfl rfl rfl rfl rfl fun g105 Az w106 Hz m106 => ?_)
   have m108 := m106.freezeR 108 rfl
   refine plz (e_appR Hz m108 3 rfl rfl rfl (m108.rd (i := 108) rfl) U24 fct36 rfl rfl (by decide) (by rw [List.length_map, List.length_singleton]; have := hlen; omega) rfl fun p107 c107 Az w109 Hz m109 => ?_)
   refine gz hK3 Hz (.assign rfl .nil) fun Az Hz => ?_
   replace Hz := Hz.oz [0, 3, 4, 5]
   refine wp_region_lit ?_
   refine goCh Hz (.move rfl <| .inc (i + 4) <| .assign rfl .nil) fun Az Hz => ?_
   refine wpList_nil ?_
   show ∃ n', n' < _ ∧ _
   have hE : (cs.map cmD) ++ [[.v (.int .i64 (⟨kd, vo2, bl2, sz2, pe2, place, to2, at0, ix, it⟩ : Cm).kd), .v (.int .i64 (⟨kd, vo2, bl2, sz2, pe2, place, to2, at0, ix, it⟩ : Cm).vo), .v (.int .i64 (⟨kd, vo2, bl2, sz2, pe2, place, to2, at0, ix, it⟩ : Cm).bl), .v (.int .i64 (⟨kd, vo2, bl2, sz2, pe2, place, to2, at0, ix, it⟩ : Cm).sz), .v (.int .i64 (⟨kd, vo2, bl2, sz2, pe2, place, to2, at0, ix, it⟩ : Cm).pe), .ns .i64 (⟨kd, vo2, bl2, sz2, pe2, place, to2, at0, ix, it⟩ : Cm).pl, .v (.int .i64 (⟨kd, vo2, bl2, sz2, pe2, place, to2, at0, ix, it⟩ : Cm).to), .v (.int .i64 (⟨kd, vo2, bl2, sz2, pe2, place, to2, at0, ix, it⟩ : Cm).at0), .v (.int .i64 (⟨kd, vo2, bl2, sz2, pe2, place, to2, at0, ix, it⟩ : Cm).ix), .l 2 ((⟨kd, vo2, bl2, sz2, pe2, place, to2, at0, ix, it⟩ : Cm).its.map itD)]] = (cs ++ [(⟨kd, vo2, bl2, sz2, pe2, place, to2, at0, ix, it⟩ : Cm)]).map cmD := by rw [List.map_append]; rfl
   dsimp only at hE
   rw [hE] at m109 Hz
   obtain ⟨ha1, ha2, ha3⟩ := rApp_s (c := (⟨kd, vo2, bl2, sz2, pe2, place, to2, at0, ix, it⟩ : Cm)) hS hV (fun e he => (hitb e he).2)
   rw [hap] at ha1 ha2 ha3; dsimp only at ha1 ha2 ha3
   exact ⟨l.length - (i + 4), by omega, i + 4, k + 1, _, _, _, L2, cs ++ [(⟨kd, vo2, bl2, sz2, pe2, place, to2, at0, ix, it⟩ : Cm)], _, _, by omega, by omega, by rw [List.length_append, hlen]; rfl, csR_snoc hcs hR hitb, by rw [rrL_snoc hR, ← hLc, hap], ha1, by omega, ha3, rfl, Hz.only [0, 3, 4, 5], m109.ren [(1, 1), (2, 2), (3, 3)] (by decide)⟩
  refine e_alloc Hz m57 104 fct24 rfl fun g115 Az w116 Hz m116 _ _ => ?_
  refine ⟨fun _ => (m116.to ⟨il, il, il, il, il, il, il, trivial⟩), ?_⟩
  refine se 21 ?_
  refine ecl Hz Tryz.func41 rfl (scmd_v k id x th _ _ _ _ _ _ _ _ _ _ _ (fun h => hV _ (hx1 h)) hx0 (by omega) (by omega) (hlb _ (by omega)) (hlb _ (by omega)) (hlb _ (by omega)) (hlb _ (by omega))) ?_
  rintro e w117 ⟨kd, vo2, bl2, sz2, pe2, to2, at0, ix, place, it, pp9, cp9, pi9, ci9, rfl, hR, hitb, hd117, he117, hb117⟩
  have m118 := m116.callF2 105 106 rfl rfl hb117 hd117 he117
  refine ⟨_, rfl, ?_⟩; intro Az Hz
  refine se 23 ?_
  refine stw Hz m118 104 fct19 fun w120 m120 _ => ?_
  refine wpAnyE_done (by kernel_rfl) ?_ _
  refine hK7 _ _ ?_
  replace Hz := Hz.oz [0, 3, 4, 5, 9]
  refine zsr fun K10 hK10 => ?_
  refine goCh Hz (.loadBR m120 (i := 104) rfl rfl U38 rfl fct19 (by simp) (by dsimp only [List.drop, List.take] <;> rfl) .nil) fun Az Hz => ?_
  refine plz (ecl Hz Tryz.func12 rfl (rputCmd_x kd vo2 bl2 sz2 pe2 to2 at0 ix place it _ _ _ _ _ _ ((m120.rd (i := 105) rfl).any) ((m120.rd (i := 106) rfl).any) (hR.ok (fun e he => (hitb e he).2))) ?_)
  rintro e w124 ⟨p124, c124, rfl, hd124, hb124⟩
  have m125 := m120.callF 107 rfl hb124 hd124
  refine ⟨_, rfl, ?_⟩; intro Az Hz
  refine gz hK10 Hz (.move rfl <| .extract rfl rfl <| .extract rfl rfl <| .assign rfl <| .assign rfl <| .nil) fun Az Hz => ?_
  replace Hz := Hz.oz [0, 3, 4, 5, 9, 10]
  refine zsr fun K11 hK11 => ?_
  refine goCh Hz (.move rfl <| .move rfl .nil) fun Az Hz => ?_
  refine plz (ecl Hz Tryz.func15 rfl (rapply_e _ _ k L _ _ kd vo2 bl2 sz2 pe2 to2 at0 ix place it _ _ _ hV (by omega) (by omega) hS.nodup (hR.ok (fun e he => (hitb e he).2)) (m125.into [(1, 1), (2, 2), (3, 107)] (by decide) rfl)) ?_)
  rintro e w137 ⟨L2, e1, rl1, rf1, rn1, p137, c137, rfl, hap, hm137⟩
  have mx137 := m125.back hm137 [(1, 1), (2, 2)] (by decide); clear hm137 m125
  have m137 := mx137.oz [1, 2, 3, 100, 101, 102, 103, 104, 105, 106]
  refine ⟨_, rfl, ?_⟩; intro Az Hz
  refine znl (hK11 _ _ ?_)
  refine wp_region_lit ?_
  refine goCh Hz (.move rfl <| .loadBR m137 (i := 104) rfl rfl U38 rfl fct19 (by simp) (by dsimp only [List.drop, List.take] <;> rfl) .nil) fun Az Hz => ?_
  refine plz (e_litR Hz m137 108 (mm := 10) rfl (.cons rfl rfl (.cons (.v _) (.cons (.v _) (.cons (.v _) (.cons (.v _) (.cons (.v _) (.cons (m137.rd (i := 105) rfl) (.cons (.v _) (.cons (.v _) (.cons (.v _) (.cons (m137.rd (i := 106) rfl) .nil)))))))))) .nil) U24 fct36 rfl rfl rfl rfl rfl fun g141 Az w142 Hz m142 => ?_)
  have m144 := m142.freezeR 108 rfl
  refine plz (e_appR Hz m144 3 rfl rfl rfl (m144.rd (i := 108) rfl) U24 fct36 rfl rfl (by decide) (by rw [List.length_map, List.length_singleton]; have := hlen; omega) rfl fun p143 c143 Az w145 Hz m145 => ?_)
  refine gz hK3 Hz (.assign rfl .nil) fun Az Hz => ?_
  replace Hz := Hz.oz [0, 3, 4, 5]
  refine wp_region_lit ?_
  refine goCh Hz (.move rfl <| .inc (i + 4) <| .assign rfl .nil) fun Az Hz => ?_
  refine wpList_nil ?_
  show ∃ n', n' < _ ∧ _
  have hE : (cs.map cmD) ++ [[.v (.int .i64 (⟨kd, vo2, bl2, sz2, pe2, place, to2, at0, ix, it⟩ : Cm).kd), .v (.int .i64 (⟨kd, vo2, bl2, sz2, pe2, place, to2, at0, ix, it⟩ : Cm).vo), .v (.int .i64 (⟨kd, vo2, bl2, sz2, pe2, place, to2, at0, ix, it⟩ : Cm).bl), .v (.int .i64 (⟨kd, vo2, bl2, sz2, pe2, place, to2, at0, ix, it⟩ : Cm).sz), .v (.int .i64 (⟨kd, vo2, bl2, sz2, pe2, place, to2, at0, ix, it⟩ : Cm).pe), .ns .i64 (⟨kd, vo2, bl2, sz2, pe2, place, to2, at0, ix, it⟩ : Cm).pl, .v (.int .i64 (⟨kd, vo2, bl2, sz2, pe2, place, to2, at0, ix, it⟩ : Cm).to), .v (.int .i64 (⟨kd, vo2, bl2, sz2, pe2, place, to2, at0, ix, it⟩ : Cm).at0), .v (.int .i64 (⟨kd, vo2, bl2, sz2, pe2, place, to2, at0, ix, it⟩ : Cm).ix), .l 2 ((⟨kd, vo2, bl2, sz2, pe2, place, to2, at0, ix, it⟩ : Cm).its.map itD)]] = (cs ++ [(⟨kd, vo2, bl2, sz2, pe2, place, to2, at0, ix, it⟩ : Cm)]).map cmD := by rw [List.map_append]; rfl
  dsimp only at hE
  rw [hE] at m145 Hz
  obtain ⟨ha1, ha2, ha3⟩ := rApp_s (c := (⟨kd, vo2, bl2, sz2, pe2, place, to2, at0, ix, it⟩ : Cm)) hS hV (fun e he => (hitb e he).2)
  rw [hap] at ha1 ha2 ha3; dsimp only at ha1 ha2 ha3
  exact ⟨l.length - (i + 4), by omega, i + 4, k + 1, _, _, _, L2, cs ++ [(⟨kd, vo2, bl2, sz2, pe2, place, to2, at0, ix, it⟩ : Cm)], _, _, by omega, by omega, by rw [List.length_append, hlen]; rfl, csR_snoc hcs hR hitb, by rw [rrL_snoc hR, ← hLc, hap], ha1, by omega, ha3, rfl, Hz.only [0, 3, 4, 5], m145.ren [(1, 1), (2, 2), (3, 3)] (by decide)⟩
 intro hb15 Hz; try simp only [QQ, Qax] at hb15
 refine wcf Hz ?_
 refine wp_exit ?_
 refine hK1 _ _ ?_
 refine regS Hz (.move rfl <| .assign rfl .nil) fun Az Hz => ?_
 refine rt1 Hz ?_
 exact ⟨cs, _, _, rfl, by omega, hcs, m9.outR (i := 3) rfl, m9.below⟩
end
section
def putA : List Value → Nat → List (Nat × Value) → Option (List Value)
 | z, _, [] => some z
 | z, sz, (i, v) :: r => bif Nat.beq v.cells.toList.length sz && Nat.ble (i * sz + sz) z.length then putA (z.take (i * sz) ++ v.cells.toList ++ z.drop (i * sz + sz)) sz r else none
end
section
def pD (x : VolV × VolV) : List D := volD x.1 ++ volD x.2
set_option maxRecDepth 100000
set_option maxHeartbeats 4000000
end
section
theorem wrR_c (bl sz : Int) (ws : List PWr) (it : List (Int × List Int)) : (wrR bl sz ws it = (ws ++ [((ws.length : Int) + 1, it)], 0)) ∨ wrR bl sz ws it = (ws, 23) := by
 unfold wrR; split
 · exact .inl rfl
 exact .inr rfl
theorem doV_w {x y : VolV} {c : Cm} {e : Int} (h : doV x c = (y, e)) :
   (e = 0 → c.kd = 2 → y.ws = x.ws ++ [((x.ws.length : Int) + 1, c.its)]) ∧
   (e = 0 → c.kd = 6 → y.ws = x.ws ++ [((x.ws.length : Int) + 1, c.its)] ∨ (y.ws = x.ws ∧ x.hi = true ∧ 0 ≤ c.ix ∧ c.ix ≤ x.ne - 1)) ∧
   (y.ws = x.ws ∨ ((c.kd = 2 ∨ c.kd = 6) ∧ y.ws = x.ws ++ [((x.ws.length : Int) + 1, c.its)])) ∧
   ((x.hi = true → x.ne = x.ws.length) → (y.hi = true → y.ne = y.ws.length)) := by
 unfold doV at h
 split at h
 · rename_i hk
   obtain ⟨h1, h2⟩ := Prod.mk.inj h
   subst h1
   exact ⟨fun _ h9 => by omega, fun _ h9 => by omega, .inl rfl, fun h9 => h9⟩
 split at h
 · rename_i hk
   obtain ⟨h1, h2⟩ := Prod.mk.inj h
   subst h1
   exact ⟨fun _ h9 => by omega, fun _ h9 => by omega, .inl rfl, fun h9 => h9⟩
 obtain ⟨ne', hi', fl', ws', e', hd⟩ : ∃ a b d f g, doR x.bl x.sz x.to x.ne x.fl x.hi x.pins x.ws c.kd c.at0 c.ix c.its = (a, b, d, f, g) := ⟨_, _, _, _, _, rfl⟩
 rw [hd] at h
 obtain ⟨h1, h2⟩ := Prod.mk.inj h
 dsimp only at h1 h2
 subst h1; subst h2
 dsimp only
 unfold doR at hd
 split at hd
 · rename_i hk
   unfold putR at hd
   split at hd
   · simp only [Prod.mk.injEq] at hd; obtain ⟨rfl, rfl, rfl, rfl, rfl⟩ := hd
     exact ⟨fun h9 => by simp at h9, fun h9 => by simp at h9, .inl rfl, fun h9 => h9⟩
   rename_i hh
   rcases wrR_c x.bl x.sz x.ws c.its with hw | hw
   · rw [hw] at hd; simp only [Prod.mk.injEq] at hd; obtain ⟨rfl, rfl, rfl, rfl, rfl⟩ := hd
     exact ⟨fun _ _ => rfl, fun _ h9 => by omega, .inr ⟨.inl hk, rfl⟩, fun _ h9 => absurd h9 hh⟩
   rw [hw] at hd; simp only [Prod.mk.injEq] at hd; obtain ⟨rfl, rfl, rfl, rfl, rfl⟩ := hd
   exact ⟨fun h9 => by simp at h9, fun h9 => by simp at h9, .inl rfl, fun h9 => h9⟩
 split at hd
 · rename_i h2 hk
   unfold pruneR at hd
   split at hd
   · simp only [Prod.mk.injEq] at hd; obtain ⟨rfl, rfl, rfl, rfl, rfl⟩ := hd
     exact ⟨fun _ h9 => absurd h9 h2, fun _ h9 => by omega, .inl rfl, fun h9 => h9⟩
   simp only [Prod.mk.injEq] at hd; obtain ⟨rfl, rfl, rfl, rfl, rfl⟩ := hd
   exact ⟨fun _ h9 => absurd h9 h2, fun _ h9 => by omega, .inl rfl, fun h9 => h9⟩
 split at hd
 · rename_i h2 h3 hk
   unfold takeR at hd
   split at hd
   · simp only [Prod.mk.injEq] at hd; obtain ⟨rfl, rfl, rfl, rfl, rfl⟩ := hd
     exact ⟨fun h9 => by simp at h9, fun h9 => by simp at h9, .inl rfl, fun h9 => h9⟩
   split at hd
   · rename_i hh hix
     simp only [Prod.mk.injEq] at hd; obtain ⟨rfl, rfl, rfl, rfl, rfl⟩ := hd
     exact ⟨fun _ h9 => absurd h9 h2, fun _ _ => .inr ⟨rfl, by simpa using hh, hix⟩, .inl rfl, fun h9 => h9⟩
   split at hd
   · simp only [Prod.mk.injEq] at hd; obtain ⟨rfl, rfl, rfl, rfl, rfl⟩ := hd
     exact ⟨fun h9 => by simp at h9, fun h9 => by simp at h9, .inl rfl, fun h9 => h9⟩
   rcases wrR_c x.bl x.sz x.ws c.its with hw | hw
   · rw [hw] at hd; simp only [if_true, Prod.mk.injEq] at hd; obtain ⟨rfl, rfl, rfl, rfl, rfl⟩ := hd
     exact ⟨fun _ h9 => absurd h9 h2, fun _ _ => .inl rfl, .inr ⟨.inr hk, rfl⟩, fun h9 h8 => by rw [List.length_append]; have := h9 h8; simp; omega⟩
   rw [hw] at hd; simp [Prod.mk.injEq] at hd; obtain ⟨rfl, rfl, rfl, rfl, rfl⟩ := hd
   exact ⟨fun h9 => by simp at h9, fun h9 => by simp at h9, .inl rfl, fun h9 => h9⟩
 split at hd
 · rename_i h2 h3 h6 hk
   unfold publishR at hd
   split at hd
   · simp only [Prod.mk.injEq] at hd; obtain ⟨rfl, rfl, rfl, rfl, rfl⟩ := hd
     exact ⟨fun h9 => by simp at h9, fun h9 => by simp at h9, .inl rfl, fun h9 => h9⟩
   simp only [Prod.mk.injEq] at hd; obtain ⟨rfl, rfl, rfl, rfl, rfl⟩ := hd
   exact ⟨fun _ h9 => absurd h9 h2, fun _ h9 => absurd h9 h6, .inl rfl, fun _ h9 => by simp at h9⟩
 split at hd
 · rename_i h2 h3 h6 h7 hk
   simp only [Prod.mk.injEq] at hd; obtain ⟨rfl, rfl, rfl, rfl, rfl⟩ := hd
   exact ⟨fun _ h9 => absurd h9 h2, fun _ h9 => absurd h9 h6, .inl rfl, fun h9 => h9⟩
 rename_i h2 h3 h6 h7 h8
 simp only [Prod.mk.injEq] at hd; obtain ⟨rfl, rfl, rfl, rfl, rfl⟩ := hd
 exact ⟨fun _ h9 => absurd h9 h2, fun _ h9 => absurd h9 h6, .inl rfl, fun h9 => h9⟩
structure HI (ts : List Tl) (R : List VolV) : Prop where
 a : ∀ t : Tl, t ∈ ts → t.e9 = 0 → t.c.kd ≠ 1 → ∃ x ∈ R, x.vo = t.c.vo ∧ t.rl ≤ x.ws.length ∧ (t.c.kd = 2 ∨ t.c.kd = 6 → 1 ≤ t.rl) ∧ (t.c.kd = 2 → x.ws[(t.rl - 1).toNat]? = some (t.rl, t.c.its))
 b : ∀ (i j : Nat) (u v : Tl), i < j → ts[i]? = some u → ts[j]? = some v → u.c.vo = v.c.vo → u.e9 = 0 → v.e9 = 0 → u.c.kd ≠ 1 → v.c.kd ≠ 1 → u.rl ≤ v.rl ∧ (v.c.kd = 2 → u.rl < v.rl)
 c : ∀ x ∈ R, ∀ w ∈ x.ws, ∃ t ∈ ts, t.c.vo = x.vo ∧ (t.c.kd = 2 ∨ t.c.kd = 6) ∧ t.c.its = w.2
 d : ∀ x ∈ R, x.hi = true → x.ne = x.ws.length
theorem HI.nil : HI [] [] := ⟨(fun _ h => by cases h), (fun i j u v _ h => by simp at h), (fun _ h => by cases h), (fun _ h => by cases h)⟩
theorem HI.same {ts : List Tl} {R R' : List VolV} {t : Tl} (h : HI ts R) (ht : t.e9 ≠ 0 ∨ t.c.kd = 1) (hs : ∀ x ∈ R, x ∈ R') (hn : ∀ x ∈ R', x ∈ R ∨ (x.ws = [] ∧ (x.hi = true → x.ne = 0))) : HI (ts ++ [t]) R' := by
 refine ⟨fun u hu h0 hk => ?_, fun i j u v hij hi hj hv hu0 hv0 hu1 hv1 => ?_, fun x hx w hw => ?_, fun x hx hh => ?_⟩
 · rcases List.mem_append.1 hu with hu | hu
   · obtain ⟨x, hx, r⟩ := h.a u hu h0 hk
     exact ⟨x, hs x hx, r⟩
   simp at hu; subst hu
   rcases ht with ht | ht
   · exact absurd h0 ht
   exact absurd ht hk
 · have hjl : j < ts.length := by
     rcases Nat.lt_or_ge j ts.length with h9 | h9
     · exact h9
     rw [List.getElem?_append_right h9] at hj
     have : v = t := by
       rcases Nat.eq_zero_or_pos (j - ts.length) with h8 | h8
       · rw [h8] at hj; simpa using hj.symm
       rw [List.getElem?_eq_none (by simp; omega)] at hj; cases hj
     subst this
     rcases ht with ht | ht
     · exact absurd hv0 ht
     exact absurd ht hv1
   rw [List.getElem?_append_left (by omega)] at hi
   rw [List.getElem?_append_left hjl] at hj
   exact h.b i j u v hij hi hj hv hu0 hv0 hu1 hv1
 · rcases hn x hx with hx | ⟨hx, _⟩
   · obtain ⟨u, hu, r⟩ := h.c x hx w hw
     exact ⟨u, List.mem_append_left _ hu, r⟩
   rw [hx] at hw; cases hw
 rcases hn x hx with hx | ⟨hx, h8⟩
 · exact h.d x hx hh
 rw [hx]; exact h8 hh
theorem HI.step {ts : List Tl} {R R' : List VolV} {t : Tl} (h : HI ts R) (hs : SrtV R) (ha : rApp R t.c = (R', t.e9, t.rl, t.rf, t.rn)) : HI (ts ++ [t]) R' := by
 by_cases hk : t.c.kd = 1
 · by_cases he : ∃ y ∈ R, y.vo = t.c.vo
   · rw [rApp_ex hk he] at ha
     obtain rfl := (Prod.mk.inj ha).1
     exact h.same (.inr hk) (fun x hx => hx) (fun x hx => .inl hx)
   by_cases hN : NewOk t.c.vo t.c.bl t.c.sz t.c.pe t.c.to t.c.pl
   · rw [rApp, if_pos hk, if_neg he, if_pos hN] at ha
     obtain rfl := (Prod.mk.inj ha).1
     refine h.same (.inr hk) (fun x hx => ins_perm.mem_iff.1 (List.mem_append_left _ hx)) (fun x hx => ?_)
     rcases List.mem_append.1 (ins_perm.mem_iff.2 hx) with hx | hx
     · exact .inl hx
     simp at hx; subst hx; exact .inr ⟨rfl, fun _ => rfl⟩
   rw [rApp_bad hk he hN] at ha
   obtain rfl := (Prod.mk.inj ha).1
   exact h.same (.inr hk) (fun x hx => hx) (fun x hx => .inl hx)
 by_cases he : ∃ y ∈ R, y.vo = t.c.vo
 · obtain ⟨x, hxR, hxv⟩ := he
   obtain ⟨j, hj⟩ := List.getElem?_of_mem hxR
   obtain ⟨y, e9, hd⟩ : ∃ y e9, doV x t.c = (y, e9) := ⟨_, _, rfl⟩
   obtain ⟨rl, rf, rn, hr⟩ : ∃ rl rf rn, repV y e9 = (rl, rf, rn) := ⟨_, _, _, rfl⟩
   rw [rApp_do hk hs.nodup hj hxv hd hr] at ha
   simp only [Prod.mk.injEq] at ha
   obtain ⟨rfl, rfl, h1, -, -⟩ := ha
   obtain ⟨w2, w6, ww, wd⟩ := doV_w hd
   have hyv : y.vo = x.vo := doV_vo hd
   have hrl : t.e9 = 0 → t.rl = y.ws.length := fun h0 => by rw [repV, if_pos h0] at hr; rw [← h1]; exact (Prod.mk.inj hr).1.symm
   have hyR : y ∈ R.set j y := List.mem_iff_getElem?.2 ⟨j, by rw [List.getElem?_set_self (List.getElem?_eq_some_iff.1 hj).1]⟩
   have hold : ∀ z ∈ R, z.vo ≠ x.vo → z ∈ R.set j y := fun z hz hne => by
     rw [set_map hs.nodup hj]
     exact List.mem_map.2 ⟨z, hz, by rw [if_neg hne]⟩
   have hnew : ∀ z ∈ R.set j y, z = y ∨ z ∈ R := fun z hz => (List.mem_or_eq_of_mem_set hz).elim .inr .inl
   have hle : x.ws.length ≤ y.ws.length := by
     rcases ww with e | ⟨_, e⟩
     · rw [e]; exact Nat.le_refl _
     rw [e, List.length_append]; omega
   have hget : ∀ (k : Nat) (w : PWr), x.ws[k]? = some w → y.ws[k]? = some w := fun k w hkw => by
     rcases ww with e | ⟨_, e⟩
     · rw [e]; exact hkw
     rw [e, List.getElem?_append_left (List.getElem?_eq_some_iff.1 hkw).1]; exact hkw
   have hold1 : ∀ u ∈ ts, u.e9 = 0 → u.c.kd ≠ 1 → u.c.vo = t.c.vo → u.rl ≤ x.ws.length := fun u hu h0 hk9 hv9 => by
     obtain ⟨z, hz, hzv, hzl, _⟩ := h.a u hu h0 hk9
     rwa [vo_inj hs.nodup hz hxR (by rw [hzv, hv9, hxv])] at hzl
   refine ⟨fun u hu h0 hk9 => ?_, fun i k u v hik hi hk8 hv hu0 hv0 hu1 hv1 => ?_, fun z hz w hw => ?_, fun z hz hh => ?_⟩
   · rcases List.mem_append.1 hu with hu | hu
     · obtain ⟨z, hz, hzv, hzl, hz1, hz2⟩ := h.a u hu h0 hk9
       by_cases hzx : z.vo = x.vo
       · have e := vo_inj hs.nodup hz hxR hzx
         subst e
         exact ⟨y, hyR, by rw [hyv, hzv], by omega, hz1, fun h2 => hget _ _ (hz2 h2)⟩
       exact ⟨z, hold z hz hzx, hzv, hzl, hz1, hz2⟩
     simp at hu; subst hu
     have hl := hrl h0
     refine ⟨y, hyR, by rw [hyv, hxv], by omega, fun h26 => ?_, fun h2 => ?_⟩
     · rcases h26 with h2 | h6
       · rw [hl, w2 h0 h2, List.length_append]; simp; omega
       rcases w6 h0 h6 with e | ⟨e, hh, h3, h4⟩
       · rw [hl, e, List.length_append]; simp; omega
       have := h.d x hxR hh; rw [hl, e]; omega
     have e := w2 h0 h2
     rw [hl, e, List.length_append]
     have e2 : (((x.ws.length + [((x.ws.length : Int) + 1, u.c.its)].length : Nat) : Int) - 1).toNat = x.ws.length := by simp
     rw [e2, List.getElem?_append_right (Nat.le_refl _), Nat.sub_self]
     simp
   · have hil : i < ts.length ∨ ts.length ≤ i := Nat.lt_or_ge _ _
     rcases Nat.lt_or_ge k ts.length with h9 | h9
     · rw [List.getElem?_append_left (by omega)] at hi
       rw [List.getElem?_append_left h9] at hk8
       exact h.b i k u v hik hi hk8 hv hu0 hv0 hu1 hv1
     have hvt : v = t ∧ k = ts.length := by
       rw [List.getElem?_append_right h9] at hk8
       rcases Nat.eq_zero_or_pos (k - ts.length) with h8 | h8
       · rw [h8] at hk8; exact ⟨by simpa using hk8.symm, by omega⟩
       rw [List.getElem?_eq_none (by simp; omega)] at hk8; cases hk8
     obtain ⟨rfl, rfl⟩ := hvt
     rw [List.getElem?_append_left hik] at hi
     have h7 := hold1 u (List.mem_of_getElem? hi) hu0 hu1 hv
     have hl := hrl hv0
     refine ⟨by omega, fun h2 => ?_⟩
     have := w2 hv0 h2
     rw [hl, this, List.length_append]; simp; omega
   · rcases hnew z hz with rfl | hz9
     · rcases ww with e | ⟨hkk, e⟩
       · rw [e] at hw
         obtain ⟨u, hu, r1, r2, r3⟩ := h.c x hxR w hw
         exact ⟨u, List.mem_append_left _ hu, by rw [r1, hyv], r2, r3⟩
       rw [e] at hw
       rcases List.mem_append.1 hw with hw | hw
       · obtain ⟨u, hu, r1, r2, r3⟩ := h.c x hxR w hw
         exact ⟨u, List.mem_append_left _ hu, by rw [r1, hyv], r2, r3⟩
       simp at hw; subst hw
       exact ⟨t, List.mem_append_right _ (List.mem_singleton.2 rfl), by rw [hyv, hxv], hkk, rfl⟩
     obtain ⟨u, hu, r⟩ := h.c z hz9 w hw
     exact ⟨u, List.mem_append_left _ hu, r⟩
   rcases hnew z hz with rfl | hz9
   · exact wd (h.d x hxR) hh
   exact h.d z hz9 hh
 rw [rApp_no hk he] at ha
 simp only [Prod.mk.injEq] at ha
 obtain ⟨rfl, h1, -⟩ := ha
 exact h.same (.inl (by rw [← h1]; decide)) (fun x hx => hx) (fun x hx => .inl hx)
end
section
theorem isB_iff {t : Tl} {l : List Int} : isB t l = true ↔ t.c.kd ∈ l := by simp [isB]
theorem graB_0 {t : Tl} (h : graB t = true) : t.e9 = 0 := by simp [graB] at h; exact h.2
theorem seeB_0 {t : Tl} (h : seeB t = true) : t.e9 = 0 ∧ t.c.kd ≠ 1 := by
 simp only [seeB, Bool.and_eq_true, isB_iff] at h
 refine ⟨graB_0 h.1, ?_⟩
 have h2 := h.2
 simp only [List.mem_cons, List.not_mem_nil, or_false] at h2
 omega
def TmT (ts : List Tl) : Prop := ∀ (i : Nat) (t : Tl), ts[i]? = some t → t.fr = 2 * (i : Int) ∧ t.to = 2 * (i : Int) + 1
theorem HI.pw {ts : List Tl} {R : List VolV} (h : HI ts R) : ts.Pairwise (fun u v => u.c.vo = v.c.vo → u.e9 = 0 → v.e9 = 0 → u.c.kd ≠ 1 → v.c.kd ≠ 1 → u.rl ≤ v.rl ∧ (v.c.kd = 2 → u.rl < v.rl)) :=
 List.pairwise_iff_getElem.2 (fun i j hi hj hij => h.b i j _ _ hij (List.getElem?_eq_getElem hi) (List.getElem?_eq_getElem hj))
theorem HI.ord {ts : List Tl} {R : List VolV} {v : VolV} (h : HI ts R) (hs : SrtV R) (hv : v ∈ R) (hT : TmT ts) : ordB ts v = true := by
 have hf : ∀ t ∈ ts.filter (ofB v), t ∈ ts ∧ t.c.vo = v.vo := fun t ht => by
   obtain ⟨h1, h2⟩ := List.mem_filter.1 ht
   exact ⟨h1, by simpa [ofB] using h2⟩
 have hA : (ts.filter (ofB v)).all (tolB v) = true := by
   rw [List.all_eq_true]
   intro t ht
   obtain ⟨h1, h2⟩ := hf t ht
   cases hg : graB t with
   | false => exact tol_g hg
   | true =>
     cases hi : isB t [2, 6] with
     | false => exact tol_i hi
     | true =>
       have hk : t.c.kd = 2 ∨ t.c.kd = 6 := by simpa using isB_iff.1 hi
       obtain ⟨x, hx, hxv, hl, hp, he⟩ := h.a t h1 (graB_0 hg) (by omega)
       have e := vo_inj hs.nodup hx hv (by rw [hxv, h2])
       subst e
       by_cases h9 : t.c.kd = 2
       · refine tol_eq (hp hk) hl ?_
         rw [List.getD, he h9]; rfl
       exact tol_p (hp hk) hl (by cases hb : isB t [2] with | false => rfl | true => exact absurd (by simpa using isB_iff.1 hb) h9)
 have hP : (ts.filter (ofB v)).Pairwise (fun u w => u.e9 = 0 → w.e9 = 0 → u.c.kd ≠ 1 → w.c.kd ≠ 1 → u.rl ≤ w.rl ∧ (w.c.kd = 2 → u.rl < w.rl)) := by
   have h1 := h.pw.filter (ofB v)
   refine List.Pairwise.imp_of_mem (fun {a b} ha hb hab => hab ?_) h1
   rw [(hf a ha).2, (hf b hb).2]
 have hU : unlL (ts.filter (ofB v)) = true := unl_all (Nat.le_refl _) (fun i hi j hji a b ha hb => by
   obtain ⟨hi9, rfl⟩ := List.getElem?_eq_some_iff.1 ha
   obtain ⟨hj9, rfl⟩ := List.getElem?_eq_some_iff.1 hb
   have h1 := List.pairwise_iff_getElem.1 hP j i hj9 hi9 hji
   cases hc : unl1 (ts.filter (ofB v))[i] (ts.filter (ofB v))[j] with
   | true => rfl
   | false =>
     simp only [unl1, Bool.not_eq_false', Bool.and_eq_true, decide_eq_true_eq] at hc
     obtain ⟨⟨⟨⟨g1, g2⟩, g3⟩, g4⟩, g5⟩ := hc
     have k1 : (ts.filter (ofB v))[i].c.kd = 2 := by simpa using isB_iff.1 g2
     have k2 : (ts.filter (ofB v))[j].c.kd = 2 := by simpa using isB_iff.1 g4
     have := (h1 (graB_0 g3) (graB_0 g1) (by omega) (by omega)).2 k1
     omega)
 have hI : intL (ts.filter (ofB v)) = true := by
   unfold intL
   rw [List.all_eq_true]
   intro a ha
   rw [List.all_eq_true]
   intro b hb
   cases hc : int1 a b with
   | true => rfl
   | false =>
     simp only [int1, Bool.not_eq_false', Bool.and_eq_true, decide_eq_true_eq, Bool.not_eq_true'] at hc
     obtain ⟨⟨⟨g1, g2⟩, g3⟩, g4⟩ := hc
     obtain ⟨a1, a2⟩ := hf a ha
     obtain ⟨b1, b2⟩ := hf b hb
     obtain ⟨i, hi⟩ := List.getElem?_of_mem a1
     obtain ⟨j, hj⟩ := List.getElem?_of_mem b1
     have t1 := (hT i a hi).2
     have t2 := (hT j b hj).1
     have hij : i < j := by omega
     obtain ⟨r1, r2⟩ := h.b i j a b hij hi hj (by rw [a2, b2]) (seeB_0 g1).1 (seeB_0 g2).1 (seeB_0 g1).2 (seeB_0 g2).2
     unfold upB at g4
     split at g4
     · rename_i hk
       have := r2 (by simpa using isB_iff.1 hk)
       simp at g4; omega
     simp at g4; omega
 have hK : askL (ts.filter (ofB v)) v = true := by
   unfold askL
   rw [List.all_eq_true]
   intro w hw
   obtain ⟨t, ht, h1, h2, h3⟩ := h.c v hv w hw
   rw [List.any_eq_true]
   refine ⟨t, List.mem_filter.2 ⟨ht, by simp [ofB, h1]⟩, ?_⟩
   simp only [ask1, Bool.and_eq_true, isB_iff, decide_eq_true_eq]
   exact ⟨by simpa using h2, h3⟩
 simp only [ordB, hA, hU, hI, hK, Bool.and_self]
theorem ord_tol {ts : List Tl} {v : VolV} {t : Tl} (ht : t ∈ ts) (hv : t.c.vo = v.vo) (h : tolB v t = false) : ordB ts v = false := by
 have h1 : (ts.filter (ofB v)).all (tolB v) = false := by
   cases hc : (ts.filter (ofB v)).all (tolB v) with
   | false => rfl
   | true =>
     have := List.all_eq_true.1 hc t (List.mem_filter.2 ⟨ht, by simp [ofB, hv]⟩)
     rw [h] at this; cases this
 simp [ordB, h1]
theorem ord_unl {ts : List Tl} {v : VolV} {p q : Nat} {a b : Tl} (hpq : p < q) (ha : ts[p]? = some a) (hb : ts[q]? = some b) (hav : a.c.vo = v.vo) (hbv : b.c.vo = v.vo) (h : unl1 b a = false) : ordB ts v = false := by
 have h1 : unlL (ts.filter (ofB v)) = false := by
   cases hc : unlL (ts.filter (ofB v)) with
   | false => rfl
   | true =>
     exfalso
     -- the two tales stand in the filtered list, one behind the other
     have hsp : ts = ts.take q ++ b :: ts.drop (q + 1) := by
       obtain ⟨hq, e⟩ := List.getElem?_eq_some_iff.1 hb
       rw [← e]; simp
     have hfa : a ∈ (ts.take q).filter (ofB v) := List.mem_filter.2 ⟨List.mem_of_getElem? (i := p) (by rw [List.getElem?_take, if_pos hpq]; exact ha), by simp [ofB, hav]⟩
     obtain ⟨i, hi⟩ := List.getElem?_of_mem hfa
     have hil := (List.getElem?_eq_some_iff.1 hi).1
     have hfe : ts.filter (ofB v) = (ts.take q).filter (ofB v) ++ b :: (ts.drop (q + 1)).filter (ofB v) := by
       conv => lhs; rw [hsp]
       rw [List.filter_append, List.filter_cons, if_pos (by simp [ofB, hbv])]
     have h2 := unl_no (l := ts.filter (ofB v)) (i := ((ts.take q).filter (ofB v)).length) (j := i) (a := b) (b := a) (by rw [hfe, List.getElem?_append_right (Nat.le_refl _), Nat.sub_self]; rfl) (by rw [hfe, List.getElem?_append_left hil]; exact hi) hil h
     rw [hc] at h2; cases h2
 simp [ordB, h1]
end
section
theorem fl51zmV : flatS Tryz.prog 51 [.int .i64 0, .int .i64 0, .int .i64 0, .int .i64 0, .slice none 0 0, .int .i64 0, .int .i64 0, .bool false, .int .i64 0, .slice none 0 0, .slice none 0 0] = true := by kernel_rfl
set_option maxRecDepth 100000
set_option maxHeartbeats 4000000
theorem rmVol_x (X : Cx) (B : Nat) (L : List VolV) (p : Option Addr) (c : Nat) (vo : Int) (w0 : World) (hl : L.length ≤ 1000000) (m0 : MemOk X w0 [(1, .box B 32 [.slice p (L.map volD).length c]), (2, .dat (.slice p (L.map volD).length c) (.l 11 (L.map volD)))] w0) :
   Calls Tryz.prog 19 #[.pointer (some ⟨B, 0, none⟩), .int .i64 vo] w0 fun e w' => ∃ (x : VolV) (there : Bool) (p1 p2 p3 : Option Addr) (d1 d2 d3 : Nat), e = .returned (.tuple #[.agg #[.int .i64 x.vo, .int .i64 x.bl, .int .i64 x.sz, .int .i64 x.pe, .slice p1 x.place.length d1, .int .i64 x.to, .int .i64 x.ne, .bool x.hi, .int .i64 x.fl, .slice p2 x.pins.length d2, .slice p3 (x.ws.map wrD).length d3], .bool there]) ∧ (there = true → x ∈ L ∧ x.vo = vo) ∧ (there = false → x = volZ ∧ ¬ ∃ y ∈ L, y.vo = vo) ∧ MemOk X w0 [(1, .box B 32 [.slice p (L.map volD).length c]), (2, .dat (.slice p (L.map volD).length c) (.l 11 (L.map volD))), (3, .dat (.slice p1 x.place.length d1) (.ns .i64 x.place)), (4, .dat (.slice p2 x.pins.length d2) (.ns .i64 x.pins)), (5, .dat (.slice p3 (x.ws.map wrD).length d3) (.l 2 (x.ws.map wrD)))] w' := by
 refine ent2 Tryz.func19 rfl Tryz.ntmps19 fun Az Hz => ?_
 refine zsr fun K0 hK0 => ?_
 refine plz (e_alloc Hz m0 20 fct14 rfl fun g1 Az w2 Hz m2 _ _ => ?_)
 refine gz hK0 Hz (.assign rfl .nil) fun Az Hz => ?_
 refine zsr fun K1 hK1 => ?_
 refine goCh Hz (.move rfl <| .move rfl .nil) fun Az Hz => ?_
 refine plz (ecl Hz Tryz.func49 rfl (rfind_x _ _ L _ _ _ _ hl (m2.into [(1, 1), (2, 2)] (by decide) rfl)) ?_)
 rintro e w8 ⟨j, rfl, hj, hm8⟩
 have mx8 := m2.back hm8 [(1, 1), (2, 2)] (by decide); clear hm8 m2
 have m8 := mx8.oz [1, 2, 20]
 refine ⟨_, rfl, ?_⟩; intro Az Hz
 refine gz hK1 Hz (.assign rfl .nil) fun Az Hz => ?_
 refine wsk fun K2 hK2 => ?_
 refine regS Hz (.move rfl <| .lss rfl rfl .nil) fun Az Hz => ?_
 refine bc Hz 11 ?_ ?_
 ·
  intro hb13 Hz; try simp only [QQ, Qax] at hb13
  have hnx : ¬ ∃ y ∈ L, y.vo = vo := fnd_nx hj (by have h9 := hb13; first | omega | (simp at h9; omega))
  refine wct Hz ?_
  replace Hz := Hz.oz [0, 4, 5, 6]
  refine zsr fun K3 hK3 => ?_
  refine goCh Hz (.build rfl fct14 fl51zmV rfl (by dsimp only [setL, List.set] <;> rfl) .nil) fun Az Hz => ?_
  refine plz (stw Hz m8 20 fct13 fun w17 m17 _ => ?_)
  refine gz hK3 Hz (.assign rfl .nil) fun Az Hz => ?_
  refine rtd (retCT (fn := Tryz.f19) Hz m17 (i := 20) rfl rfl rfl rfl U51 rfl fct13 ?_)
  have mA := m17.dat 91 rfl (Rd.nilN _ _ .i64 none)
  have mB := mA.dat 92 rfl (Rd.nilN _ _ .i64 none)
  have mC := mB.dat 93 rfl (Rd.l0 none 0 2)
  exact ⟨volZ, false, _, _, _, _, _, _, rfl, (fun h => by cases h), (fun _ => ⟨rfl, hnx⟩), mC.ren [(1, 1), (2, 2), (3, 91), (4, 92), (5, 93)] (by decide)⟩
 intro hb13 Hz; try simp only [QQ, Qax] at hb13
 revert Hz
 obtain ⟨jn, x, rfl, hes, hxv⟩ := fnd_get hj (by have h9 := hb13; first | omega | (simp at h9; omega))
 intro Hz
 have hjl : jn < L.length := (List.getElem?_eq_some_iff.1 hes).1
 refine wcf Hz ?_
 refine zss (hK2 _ _ ?_)
 replace Hz := Hz.oz [0, 4, 5, 6]
 refine zsr fun K4 hK4 => ?_
 refine goCh Hz (.move rfl <| .nilCheck rfl <| .fa 0 rfl U32 <| .lb m8 1 U30 rfl rfl rfl <| .move rfl .nil) fun Az Hz => ?_
 obtain ⟨b31, o31, vs31, hp31, hR31, ho31, m31⟩ := m8.openR (i := 2) rfl (jn) (r := [.v (.int .i64 x.vo), .v (.int .i64 x.bl), .v (.int .i64 x.sz), .v (.int .i64 x.pe), .ns .i64 x.place, .v (.int .i64 x.to), .v (.int .i64 x.ne), .v (.bool x.hi), .v (.int .i64 x.fl), .ns .i64 x.pins, .l 2 (x.ws.map wrD)]) (volD_get hes) 21 rfl
 revert Hz
 cases hp31; clear m8 ho31
 rcases hR31 with _ | ⟨hd31_0, _ | ⟨hd31_1, _ | ⟨hd31_2, _ | ⟨hd31_3, _ | ⟨hd31_4, _ | ⟨hd31_5, _ | ⟨hd31_6, _ | ⟨hd31_7, _ | ⟨hd31_8, _ | ⟨hd31_9, _ | ⟨hd31_10, _ | _⟩⟩⟩⟩⟩⟩⟩⟩⟩⟩⟩
 obtain rfl := hd31_0.v_out
 clear hd31_0
 obtain rfl := hd31_1.v_out
 clear hd31_1
 obtain rfl := hd31_2.v_out
 clear hd31_2
 obtain rfl := hd31_3.v_out
 clear hd31_3
 obtain ⟨p32, c32, hv32, hc32⟩ := hd31_4.ns_shape; subst hv32
 intro Hz
 have m32 := m31.dat 22 rfl (hd31_4.cast (fun _ h => (free_add rfl h))); clear m31 hd31_4
 revert Hz
 obtain rfl := hd31_5.v_out
 clear hd31_5
 obtain rfl := hd31_6.v_out
 clear hd31_6
 obtain rfl := hd31_7.v_out
 clear hd31_7
 obtain rfl := hd31_8.v_out
 clear hd31_8
 obtain ⟨p33, c33, hv33, hc33⟩ := hd31_9.ns_shape; subst hv33
 intro Hz
 have m33 := m32.dat 23 rfl (hd31_9.cast (fun _ h => (free_add rfl (free_add rfl h)))); clear m32 hd31_9
 revert Hz
 obtain ⟨p34, c34, hv34, hc34⟩ := hd31_10.l_shape; subst hv34
 intro Hz
 have m34 := m33.dat 24 rfl (hd31_10.cast (fun _ h => (free_add rfl (free_add rfl (free_add rfl h))))); clear m33 hd31_10
 refine goCh Hz (.c rfl (fun _ h_ => y_idx h_ rfl rfl U30 fct13 (jn) rfl (by simpa using hjl)) <| .loadCR m34 (i := 21) rfl rfl U51 rfl fct13 .nil) fun Az Hz => ?_
 refine plz (stw Hz m34 20 fct13 fun w37 m37 _ => ?_)
 refine gz hK4 Hz (.assign rfl .nil) fun Az Hz => ?_
 refine rtd (retCT (fn := Tryz.f19) Hz m37 (i := 20) rfl rfl rfl rfl U51 rfl fct13 ?_)
 exact ⟨x, true, _, _, _, _, _, _, rfl, (fun _ => ⟨List.mem_of_getElem? hes, hxv⟩), (fun h => by cases h), m37.ren [(1, 1), (2, 2), (3, 22), (4, 23), (5, 24)] (by decide)⟩
end
section
theorem graB_of {ts : List Tl} {i : Nat} {t : Tl} (hT : TmT ts) (hi : ts[i]? = some t) (h0 : t.e9 = 0) (r : Int) : graB { t with rl := r } = true := by
 obtain ⟨h1, h2⟩ := hT i t hi
 simp only [graB, ansB, Bool.and_eq_true, decide_eq_true_eq]
 exact ⟨⟨by omega, by omega⟩, h0⟩
theorem isB_2 {t : Tl} (h : t.c.kd = 2) (r : Int) : isB { t with rl := r } [2] = true ∧ isB { t with rl := r } [2, 6] = true := by
 simp [isB, h]
theorem lie_far {ts : List Tl} {v : VolV} {q : Nat} {b : Tl} (hT : TmT ts) (hq : ts[q]? = some b) (hv : b.c.vo = v.vo) (hk : b.c.kd = 2) (h0 : b.e9 = 0) {r : Int} (hr : r < 1 ∨ (v.ws.length : Int) < r) : ordB (ts.set q { b with rl := r }) v = false := by
 have hm : { b with rl := r } ∈ ts.set q { b with rl := r } := List.mem_iff_getElem?.2 ⟨q, by rw [List.getElem?_set_self (List.getElem?_eq_some_iff.1 hq).1]⟩
 refine ord_tol hm hv ?_
 rcases hr with hr | hr
 · exact tol_lt hr (graB_of hT hq h0 r) (isB_2 hk r).2
 exact tol_gt hr (graB_of hT hq h0 r) (isB_2 hk r).2
theorem lie_same {ts : List Tl} {v : VolV} {p q : Nat} {a b : Tl} (hT : TmT ts) (hpq : p < q) (hp : ts[p]? = some a) (hq : ts[q]? = some b) (hav : a.c.vo = v.vo) (hv : b.c.vo = v.vo) (hka : a.c.kd = 2) (hk : b.c.kd = 2) (ha0 : a.e9 = 0) (h0 : b.e9 = 0) : ordB (ts.set q { b with rl := a.rl }) v = false := by
 refine ord_unl (p := p) (q := q) (a := a) (b := { b with rl := a.rl }) hpq (by rw [List.getElem?_set_ne (by omega)]; exact hp) (by rw [List.getElem?_set_self (List.getElem?_eq_some_iff.1 hq).1]) hav hv ?_
 have g1 : graB a = true := graB_of hT hp ha0 a.rl
 have g2 := graB_of hT hq h0 a.rl
 have i1 : isB a [2] = true := (isB_2 hka a.rl).1
 have i2 := (isB_2 hk a.rl).1
 simp [unl1, g1, g2, i1, i2]
def PutsI (ts : List Tl) (ps : List Int) : Prop := ps.Pairwise (· < ·) ∧ ∀ z ∈ ps, ∃ (i : Nat) (t : Tl), z = (i : Int) ∧ ts[i]? = some t ∧ t.c.kd = 2 ∧ t.e9 = 0
theorem PutsI.nil : PutsI [] [] := ⟨List.Pairwise.nil, fun _ h => by cases h⟩
theorem PutsI.keep {ts : List Tl} {ps : List Int} {t : Tl} (h : PutsI ts ps) : PutsI (ts ++ [t]) ps := ⟨h.1, fun z hz => by
 obtain ⟨i, u, h1, h2, h3⟩ := h.2 z hz
 exact ⟨i, u, h1, by rw [List.getElem?_append_left (List.getElem?_eq_some_iff.1 h2).1]; exact h2, h3⟩⟩
theorem PutsI.more {ts : List Tl} {ps : List Int} {t : Tl} (h : PutsI ts ps) (hk : t.c.kd = 2) (h0 : t.e9 = 0) : PutsI (ts ++ [t]) (ps ++ [(ts.length : Int)]) := by
 refine ⟨List.pairwise_append.2 ⟨h.1, List.pairwise_singleton _ _, fun x hx y hy => ?_⟩, fun z hz => ?_⟩
 · obtain ⟨i, u, h1, h2, _⟩ := h.2 x hx
   have := (List.getElem?_eq_some_iff.1 h2).1
   simp at hy; omega
 rcases List.mem_append.1 hz with hz | hz
 · exact h.keep.2 z hz
 simp at hz; exact ⟨ts.length, t, hz, by simp, hk, h0⟩
theorem TmT.nil : TmT [] := fun i t h => by simp at h
theorem TmT.snoc {ts : List Tl} {t : Tl} (h : TmT ts) (h1 : t.fr = 2 * (ts.length : Int)) (h2 : t.to = 2 * (ts.length : Int) + 1) : TmT (ts ++ [t]) := fun i u hu => by
 rcases Nat.lt_or_ge i ts.length with hi | hi
 · rw [List.getElem?_append_left hi] at hu; exact h i u hu
 rw [List.getElem?_append_right hi] at hu
 rcases Nat.eq_zero_or_pos (i - ts.length) with h8 | h8
 · rw [h8] at hu
   have e : u = t := by simpa using hu.symm
   subst e
   have : i = ts.length := by omega
   subst this; exact ⟨h1, h2⟩
 rw [List.getElem?_eq_none (by simp; omega)] at hu; cases hu
end
end Go.Proofs.YtkehgingagggaaaGreat.K
