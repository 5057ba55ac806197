/- General laws of walks. -/
import Derived.Test.YtkehgingagggaaaGreatG25
namespace Go.Proofs.YtkehgingagggaaaGreat.K
open Go.ChangeShapes Go.WideShapes Go.ChangeAt Go.RowKit
set_option linter.unusedVariables false
set_option linter.unusedSimpArgs false
section
theorem volS_B {n : Nat} {x : VolV} (h : VolS n x) (hn : n ≤ 800000) : VolB x := by
 have h2 := h.sm
 obtain ⟨g1, g2, g3, g4, g5⟩ := h
 exact ⟨by omega, by omega, by omega, fun e he => ⟨by have := g1.its.2 e he; omega, g5 e he⟩⟩
theorem shp_tr {x y z : VolV} (h1 : shpE x y) (h2 : shpE y z) : shpE x z := ⟨h1.1.trans h2.1, h1.2.1.trans h2.2.1, h1.2.2.1.trans h2.2.2.1, h1.2.2.2.1.trans h2.2.2.2.1, h1.2.2.2.2.1.trans h2.2.2.2.2.1, h1.2.2.2.2.2.trans h2.2.2.2.2.2⟩
theorem app_tr {a b c : List PWr} (h1 : ∃ t, b = a ++ t) (h2 : ∃ t, c = b ++ t) : ∃ t, c = a ++ t := by
 obtain ⟨t, rfl⟩ := h1; obtain ⟨u, rfl⟩ := h2; exact ⟨t ++ u, by rw [List.append_assoc]⟩
theorem pre_len {a b : List PWr} (h : ∃ t, b = a ++ t) : a.length ≤ b.length := by obtain ⟨t, rfl⟩ := h; simp
theorem pre_take {a b : List PWr} (h : ∃ t, b = a ++ t) : a = b.take a.length := by obtain ⟨t, rfl⟩ := h; simp
theorem pre_back {v x : VolV} (h : shpE v x) (hp : ∃ t, x.ws = v.ws ++ t) : (decide (preE x v) == decide ((((x.ws.map wrD).length : Nat) : Int) = (((v.ws.map wrD).length : Nat) : Int))) = true := by
 obtain ⟨t, ht⟩ := hp
 rw [List.length_map, List.length_map]
 by_cases hl : x.ws.length = v.ws.length
 · have h0 : t = [] := by rw [ht, List.length_append] at hl; exact List.length_eq_zero_iff.1 (by omega)
   subst h0
   rw [List.append_nil] at ht
   have h1 : preE x v := ⟨⟨h.1.symm, h.2.1.symm, h.2.2.1.symm, h.2.2.2.1.symm, h.2.2.2.2.1.symm, h.2.2.2.2.2.symm⟩, by omega, by rw [ht, List.take_length]⟩
   rw [decide_eq_true h1, decide_eq_true (by omega)]; rfl
 have h1 : ¬ preE x v := fun h9 => by
   have h3 := h9.2.1
   have h4 : v.ws.length ≤ x.ws.length := by rw [ht]; simp
   omega
 rw [decide_eq_false h1, decide_eq_false (by omega)]; rfl
theorem samPE (x y : VolV) : (decide (samP x y) == decide (samE x y)) = true := by
 rw [show decide (samP x y) = decide (samE x y) from decide_eq_decide.2 samP_iff]; exact beq_self_eq_true _
theorem boolT {P : Program} {f : FuncId} {aa : Array Value} {w : World} {b : Bool} {N : Nat} (h : b = true) (hc : Calls P f aa w fun e w' => e = .returned (.bool b) ∧ Below N w w') : Calls P f aa w fun e w' => e = .returned (.bool true) ∧ Below N w w' := h ▸ hc
theorem callF2 {w w' w0 : World} {X : Cx} {M : Mm} (m : MemOk X w0 M w) (i j : Nat) {u v : Value} {d e : D} (hi : lk M i = none) (hj : lk ((i, .dat u d) :: M) j = none) (hb : Below w.heap.size w w') (h1 : Rd (New w) w' u d) (h2 : Rd (New w) w' v e) : MemOk X w0 ((j, .dat v e) :: (i, .dat u d) :: M) w' :=
 (m.callF i hi hb h1).dat j hj (h2.cast (fun b hb => free_add rfl (m.free_out (.inr hb))))
set_option maxRecDepth 100000
set_option maxHeartbeats 4000000
theorem rDo_p (S : Nat → Prop) (x : VolV) (c : Cm) (n : Nat) (hx : VolS n x) (hn : n ≤ 800000) (hil : c.its.length ≤ 1000000) (hio : ItsOk c.its) (p1 p2 p3 q1 pi : Option Addr) (c1 c2 c3 nx n1 d1 ni ci : Nat) (v1 v2 v3 v4 v5 : Int) (w0 : World) (h1 : Rd S w0 (.slice p1 x.place.length c1) (.ns .i64 x.place)) (h2 : Rd S w0 (.slice p2 x.pins.length c2) (.ns .i64 x.pins)) (h3 : Rd S w0 (.slice p3 nx c3) (.l 2 (x.ws.map wrD))) (h4 : Rd S w0 (.slice pi ni ci) (.l 2 (c.its.map itD))) :
   Calls Tryz.prog 40 #[.agg #[.int .i64 x.vo, .int .i64 x.bl, .int .i64 x.sz, .int .i64 x.pe, .slice p1 x.place.length c1, .int .i64 x.to, .int .i64 x.ne, .bool x.hi, .int .i64 x.fl, .slice p2 x.pins.length c2, .slice p3 nx c3], .agg #[.int .i64 c.kd, .int .i64 v1, .int .i64 v2, .int .i64 v3, .int .i64 v4, .slice q1 n1 d1, .int .i64 v5, .int .i64 c.at0, .int .i64 c.ix, .slice pi ni ci]] w0 fun e w' => ∃ (y : VolV) (e9 rl rf rn : Int) (p1 p2 p3 : Option Addr) (d1 d2 d3 : Nat), e = .returned (.tuple #[.agg #[.int .i64 y.vo, .int .i64 y.bl, .int .i64 y.sz, .int .i64 y.pe, .slice p1 y.place.length d1, .int .i64 y.to, .int .i64 y.ne, .bool y.hi, .int .i64 y.fl, .slice p2 y.pins.length d2, .slice p3 (y.ws.map wrD).length d3], .agg #[.int .i64 e9, .int .i64 rl, .int .i64 rf, .int .i64 rn, .slice none 0 0]]) ∧ doV x c = (y, e9) ∧ repV y e9 = (rl, rf, rn) ∧ Rd (Out S w0) w' (.slice p1 y.place.length d1) (.ns .i64 y.place) ∧ Rd (Out S w0) w' (.slice p2 y.pins.length d2) (.ns .i64 y.pins) ∧ Rd (Out S w0) w' (.slice p3 (y.ws.map wrD).length d3) (.l 2 (y.ws.map wrD)) ∧ Below w0.heap.size w0 w' := by
 obtain rfl : nx = (x.ws.map wrD).length := by obtain ⟨pq, cq, hv, _⟩ := h3.l_shape; injection hv with _ e2 _
 obtain rfl : ni = c.its.length := by obtain ⟨pq, cq, hv, _⟩ := h4.l_shape; injection hv with _ e2 _; rw [List.length_map] at e2; exact e2
 have hF : ∀ (M : Mm), (∀ b, ¬ Own M b) → ∀ b, S b → Free (cx S w0) M b := fun M hM b hb => ⟨fun _ => hb, hM b⟩
 have m1 := (MemOk.start S w0).dat 1 rfl (h1.cast (fun b hb => hF _ (by rintro b ⟨j, s, hj, _⟩; cases hj) b hb))
 have m2 := m1.dat 2 rfl (h2.cast (fun b hb => hF _ (by rintro b ⟨j, s, hj, hs⟩; rw [lk_cons] at hj; split at hj; (· cases hj; cases hs); cases hj) b hb))
 have m3 := m2.dat 3 rfl (h3.cast (fun b hb => hF _ (by rintro b ⟨j, s, hj, hs⟩; rw [lk_cons] at hj; split at hj; (· cases hj; cases hs); rw [lk_cons] at hj; split at hj; (· cases hj; cases hs); cases hj) b hb))
 have m4 := m3.dat 4 rfl (h4.cast (fun b hb => hF _ (by rintro b ⟨j, s, hj, hs⟩; rw [lk_cons] at hj; split at hj; (· cases hj; cases hs); rw [lk_cons] at hj; split at hj; (· cases hj; cases hs); rw [lk_cons] at hj; split at hj; (· cases hj; cases hs); cases hj) b hb))
 refine (rDo_v (cx S w0) x c n hx hn hil hio p1 p2 p3 q1 pi c1 c2 c3 n1 d1 ci v1 v2 v3 v4 v5 w0 (m4.only [1, 2, 3, 4])).mono ?_
 rintro e w' ⟨y, e9, rl, rf, rn, a1, a2, a3, b1, b2, b3, he, hd, hr, m⟩
 exact ⟨y, e9, rl, rf, rn, a1, a2, a3, b1, b2, b3, he, hd, hr, m.outD (i := 1) rfl, m.outD (i := 2) rfl, m.outD (i := 3) rfl, m.below⟩
theorem prefixes_walk (y0 y1 y2 : List Int) (q0 q1 q2 : Option Addr) (g0 g1 g2 : Nat) (w0 : World) (h0 : Rd (fun _ => True) w0 (.slice q0 y0.length g0) (.ns .u8 y0)) (hb0 : ∀ j, j < y0.length → 0 ≤ y0.getD j 0 ∧ y0.getD j 0 ≤ 255) (h1 : Rd (fun _ => True) w0 (.slice q1 y1.length g1) (.ns .u8 y1)) (hb1 : ∀ j, j < y1.length → 0 ≤ y1.getD j 0 ∧ y1.getD j 0 ≤ 255) (h2 : Rd (fun _ => True) w0 (.slice q2 y2.length g2) (.ns .u8 y2)) (hb2 : ∀ j, j < y2.length → 0 ≤ y2.getD j 0 ∧ y2.getD j 0 ≤ 255) :
   Calls Tryz.prog 7 #[.slice q0 y0.length g0, .slice q1 y1.length g1, .slice q2 y2.length g2] w0 fun e w' => e = .returned (.bool true) ∧ Below w0.heap.size w0 w' := by
 refine ent3 Tryz.func7 rfl Tryz.ntmps7 fun Az Hz => ?_
 have m0 := MemOk.start (fun _ => False) w0
 refine regS Hz (.assign rfl .nil) fun Az Hz => ?_
 refine wsk fun K0 hK0 => ?_
 refine zsr fun K1 hK1 => ?_
 refine plz (ecb Hz Tryz.func31 rfl m0 (known26 _) fun Az w2 Hz m3 => ?_)
 refine gz hK1 Hz (.not rfl .nil) fun Az Hz => ?_
 refine wcf Hz ?_
 refine zss (hK0 _ _ ?_)
 refine wsk fun K2 hK2 => ?_
 refine zsr fun K3 hK3 => ?_
 refine goCh Hz (.move rfl <| .len rfl U22 <| .gtr rfl rfl <| .move rfl .nil) fun Az Hz => ?_
 refine bc Hz 16 ?_ ?_
 ·
  intro hb14 Hz; try simp only [QQ, Qax] at hb14
  refine gz hK3 Hz (.sk <| .sk <| .sk <| .pickT rfl rfl <| .move rfl <| .sk <| .sk <| .sk <| .pickT rfl rfl <| .nil) fun Az Hz => ?_
  refine wct Hz ?_
  replace Hz := Hz.oz [0, 1, 2, 6]
  refine regS Hz (.assign rfl .nil) fun Az Hz => ?_
  refine rt1 Hz ?_
  exact ⟨rfl, m3.below⟩
 intro hb14 Hz; try simp only [QQ, Qax] at hb14
 have hc0 := hb14
 refine goCh Hz (.moveZ rfl <| .lenZ rfl U22 <| .gtrZ rfl rfl <| .pickF rfl rfl <| .move rfl .nil) fun Az Hz => ?_
 refine bc Hz 21 ?_ ?_
 ·
  intro hb31 Hz; try simp only [QQ, Qax] at hb31
  refine gz hK3 Hz (.sk <| .sk <| .sk <| .pickT rfl rfl <| .nil) fun Az Hz => ?_
  refine wct Hz ?_
  replace Hz := Hz.oz [0, 1, 2, 6]
  refine regS Hz (.assign rfl .nil) fun Az Hz => ?_
  refine rt1 Hz ?_
  exact ⟨rfl, m3.below⟩
 intro hb31 Hz; try simp only [QQ, Qax] at hb31
 have hc1 := hb31
 refine gz hK3 Hz (.moveZ rfl <| .lenZ rfl U22 <| .gtrZ rfl rfl <| .pickF rfl rfl <| .nil) fun Az Hz => ?_
 refine bc Hz 25 ?_ ?_
 ·
  intro hb42 Hz; try simp only [QQ, Qax] at hb42
  refine wct Hz ?_
  replace Hz := Hz.oz [0, 1, 2, 6]
  refine regS Hz (.assign rfl .nil) fun Az Hz => ?_
  refine rt1 Hz ?_
  exact ⟨rfl, m3.below⟩
 intro hb42 Hz; try simp only [QQ, Qax] at hb42
 have hc2 := hb42
 refine wcf Hz ?_
 refine zss (hK2 _ _ ?_)
 replace Hz := Hz.oz [0, 1, 2, 6]
 refine zsr fun K4 hK4 => ?_
 refine goCh Hz (.move rfl .nil) fun Az Hz => ?_
 refine plz (ecl Hz Tryz.func34 rfl (svol_any y0 _ _ _ ((h0.now' m3 rfl).any) (by omega) hb0) ?_)
 rintro e w48 ⟨v, pv1, pv2, pv3, dv1, dv2, dv3, rfl, hSv, ha48, hc48, hd48, hb48⟩
 have m49 := m3.callF3 200 201 202 rfl rfl rfl hb48 ha48 hc48 hd48
 clear ha48 hc48 hd48 hb48
 refine ⟨_, rfl, ?_⟩; intro Az Hz
 refine plz (e_alloc Hz m49 203 fct14 rfl fun g51 Az w52 Hz m52 _ _ => ?_)
 refine plz (stw Hz m52 203 fct13 fun w53 m53 _ => ?_)
 refine znl (hK4 _ _ ?_)
 refine zsr fun K5 hK5 => ?_
 refine goCh Hz (.loadBR m53 (i := 203) rfl rfl U51 rfl fct13 (by simp) (by dsimp only [List.drop, List.take] <;> rfl) .nil) fun Az Hz => ?_
 refine plz (e_alloc Hz m53 204 fct14 rfl fun g56 Az w57 Hz m57 _ _ => ?_)
 refine plz (stw Hz m57 204 fct13 fun w58 m58 _ => ?_)
 refine znl (hK5 _ _ ?_)
 refine wsk fun K6 hK6 => ?_
 refine regS Hz (.assign rfl .nil) fun Az Hz => ?_
 refine wp_block ?_
 have m60 := m58.dat 205 rfl (m58.rd (i := 200) rfl)
 have m61 := m60.dat 206 rfl (m60.rd (i := 201) rfl)
 have m62 := m61.dat 207 rfl (m61.rd (i := 202) rfl)
 have hBv : VolB v := volS_B hSv (by omega)
 refine wp_loop_ghost (fun g a w => ∃ (k : Nat) (x : VolV) (Bv Bx : Nat) (px1 px2 px3 : Option Addr) (dx1 dx2 dx3 : Nat), k ≤ y1.length ∧ VolS (y0.length + k) x ∧ shpE v x ∧ (∃ t, x.ws = v.ws ++ t) ∧ g = y1.length - k ∧ Has 103 [(1, .slice q1 y1.length g1), (2, .slice q2 y2.length g2), (7, .pointer (some ⟨Bv, 0, none⟩)), (8, .pointer (some ⟨Bx, 0, none⟩)), (9, .int .i64 k)] a ∧ MemOk (cn w0) w0 [(20, .box Bv 51 [.int .i64 v.vo, .int .i64 v.bl, .int .i64 v.sz, .int .i64 v.pe, .slice pv1 v.place.length dv1, .int .i64 v.to, .int .i64 v.ne, .bool v.hi, .int .i64 v.fl, .slice pv2 v.pins.length dv2, .slice pv3 (v.ws.map wrD).length dv3]), (21, .dat (.slice pv1 v.place.length dv1) (.ns .i64 v.place)), (22, .dat (.slice pv2 v.pins.length dv2) (.ns .i64 v.pins)), (23, .dat (.slice pv3 (v.ws.map wrD).length dv3) (.l 2 (v.ws.map wrD))), (30, .box Bx 51 [.int .i64 x.vo, .int .i64 x.bl, .int .i64 x.sz, .int .i64 x.pe, .slice px1 x.place.length dx1, .int .i64 x.to, .int .i64 x.ne, .bool x.hi, .int .i64 x.fl, .slice px2 x.pins.length dx2, .slice px3 (x.ws.map wrD).length dx3]), (31, .dat (.slice px1 x.place.length dx1) (.ns .i64 x.place)), (32, .dat (.slice px2 x.pins.length dx2) (.ns .i64 x.pins)), (33, .dat (.slice px3 (x.ws.map wrD).length dx3) (.l 2 (x.ws.map wrD)))] w) (y1.length) ?_ ?_
 · exact ⟨0, v, _, _, _, _, _, _, _, _, Nat.zero_le _, hSv, ⟨rfl, rfl, rfl, rfl, rfl, rfl⟩, ⟨[], by simp⟩, rfl, Hz.only [1, 2, 7, 8, 9], m62.ren [(20, 203), (21, 200), (22, 201), (23, 202), (30, 204), (31, 205), (32, 206), (33, 207)] (by decide)⟩
 clear Hz m62
 rintro g Az w63 ⟨k, x, Bv, Bx, px1, px2, px3, dx1, dx2, dx3, hkl, hSx, hshp, hpr, hg, Hz, m63⟩
 refine wsk fun K7 hK7 => ?_
 refine regS Hz (.move rfl <| .inc (k + 3) <| .move rfl <| .len rfl U22 <| .lss rfl rfl .nil) fun Az Hz => ?_
 refine bc Hz 33 ?_ ?_
 ·
  intro hb69 Hz; try simp only [QQ, Qax] at hb69
  have hk3 : k + 3 < y1.length := by omega
  refine wct Hz ?_
  refine zss (hK7 _ _ ?_)
  refine wsk fun K8 hK8 => ?_
  refine wp_block ?_
  obtain ⟨gx71, ox71, hp71, hl71, hrg71⟩ := h1.extN (k) (show k < y1.length by omega)
  revert Hz
  cases hp71
  intro Hz
  obtain ⟨gx73, ox73, hp73, hl73, hrg73⟩ := h1.extN (k + 1) (show k + 1 < y1.length by omega)
  revert Hz
  cases hp73
  intro Hz
  obtain ⟨gx75, ox75, hp75, hl75, hrg75⟩ := h1.extN (k + 2) (show k + 2 < y1.length by omega)
  revert Hz
  cases hp75
  intro Hz
  obtain ⟨gx77, ox77, hp77, hl77, hrg77⟩ := h1.extN (k + 3) (show k + 3 < y1.length by omega)
  revert Hz
  cases hp77
  intro Hz
  have m78 := m63.oz [20, 21, 22, 23, 30, 31, 32, 33]
  refine region_p 26 (B := [(20, _), (21, _), (22, _), (23, _), (30, _), (31, _), (32, _), (33, _)]) (m78.to ⟨il, il, il, il, il, il, il, il, trivial⟩) m78 (by kernel_rfl) (fun w79 hP79 m79 => ?_); clear m78
  refine goR hP79 [0, 1, 2, 3, 4, 5, 6, 7, 8, 9, 10, 11, 12, 13, 14, 15, 16, 17, 18, 19, 20] [0, 1, 5, 10, 15, 20] 21 0 2097151 Hz (m79.to ⟨il, il, il, il, il, il, il, il, trivial⟩) (.loadBR hh (i := 30) rfl rfl U51 rfl fct13 (by simp) (by dsimp only [List.drop, List.take] <;> rfl) <| .loadBR hh (i := 30) rfl rfl U51 rfl fct13 (by simp) (by dsimp only [List.drop, List.take] <;> rfl) <| .move rfl <| .move rfl <| .p (fun _ _ h_ => y_idx h_ rfl rfl U22 fct18 (k) rfl (show k < y1.length by omega)) <| .loadAt1 (fun _ h_ => (hrg71 h_ rfl)) (q := 0) rfl rfl rfl U5 rfl <| .move rfl <| .move rfl <| .add rfl rfl (r := ((k + 1 : Nat) : Int)) (by rw [IntWalk.i64_in _ (by omega)]; omega) <| .p (fun _ _ h_ => y_idx h_ rfl rfl U22 fct18 (k + 1) rfl (show k + 1 < y1.length by omega)) <| .loadAt1 (fun _ h_ => (hrg73 h_ rfl)) (q := 0) rfl rfl rfl U5 rfl <| .move rfl <| .move rfl <| .add rfl rfl (r := ((k + 2 : Nat) : Int)) (by rw [IntWalk.i64_in _ (by omega)]; omega) <| .p (fun _ _ h_ => y_idx h_ rfl rfl U22 fct18 (k + 2) rfl (show k + 2 < y1.length by omega)) <| .loadAt1 (fun _ h_ => (hrg75 h_ rfl)) (q := 0) rfl rfl rfl U5 rfl <| .move rfl <| .move rfl <| .add rfl rfl (r := ((k + 3 : Nat) : Int)) (by rw [IntWalk.i64_in _ (by omega)]; omega) <| .p (fun _ _ h_ => y_idx h_ rfl rfl U22 fct18 (k + 3) rfl (show k + 3 < y1.length by omega)) <| .loadAt1 (fun _ h_ => (hrg77 h_ rfl)) (q := 0) rfl rfl rfl U5 rfl .nil) fun Az Hz => ?_
  refine so 21 ?_
  refine ecl Hz Tryz.func41 rfl (scmd_q (y0.length + k) x true _ _ _ _ _ _ _ _ _ _ _ (fun _ => hSx) (fun h => by cases h) (by omega) (hb1 _ (by omega)) (hb1 _ (by omega)) (hb1 _ (by omega)) (hb1 _ (by omega))) ?_
  rintro e w101 ⟨kd, vo2, bl2, sz2, pe2, to2, at0, ix, place, it, pp, cp, pi, ci, rfl, hpl9, hit8, hiB, ha101, hc101, hb101⟩
  have m102 := callF2 m79 300 301 rfl rfl hb101 ha101 hc101
  clear ha101 hc101 hb101
  refine ⟨_, rfl, ?_⟩; intro Az Hz
  refine ⟨m102.to ⟨il, il, il, il, il, il, il, il, trivial⟩, ?_⟩
  refine so 22 ?_
  refine ecl Hz Tryz.func40 rfl (rDo_p _ x (⟨kd, vo2, bl2, sz2, pe2, place, to2, at0, ix, it⟩ : Cm) (y0.length + k) hSx (by omega) (show it.length ≤ 1000000 by omega) hiB.ok _ _ _ _ _ _ _ _ _ _ _ _ _ _ _ _ _ _ _ (m102.rd (i := 31) rfl) (m102.rd (i := 32) rfl) (m102.rd (i := 33) rfl) (m102.rd (i := 301) rfl)) ?_
  rintro e w104 ⟨z, e9, rl, rf, rn, pz1, pz2, pz3, dz1, dz2, dz3, rfl, hdo, hrp, ho1, ho2, ho3, hb104⟩
  have m105 := callD3 m102 302 303 304 rfl rfl rfl hb104 ho1 ho2 ho3
  refine ⟨_, rfl, ?_⟩; intro Az Hz
  refine ⟨m105.to ⟨il, il, il, il, il, il, il, il, trivial⟩, ?_⟩
  refine goA hP79 [23, 24, 25] 3 8388607 67108863 Hz (m105.to ⟨il, il, il, il, il, il, il, il, trivial⟩) (.move rfl <| .extract rfl rfl <| .extract rfl rfl .nil) fun Az Hz => ?_
  refine se 26 ?_
  refine stw Hz m105 30 fct13 fun w110 m110 _ => ?_
  refine wpAnyE_done (by kernel_rfl) ?_ _
  refine hK8 _ _ ?_
  replace Hz := Hz.oz [1, 2, 7, 8, 9]
  refine wp_region_lit ?_
  refine goCh Hz (.move rfl <| .inc (k + 4) <| .assign rfl .nil) fun Az Hz => ?_
  refine wpList_nil ?_
  show ∃ n', n' < _ ∧ _
  have hSz : VolS (y0.length + k + 1) z := by have h9 := doV_s (c := (⟨kd, vo2, bl2, sz2, pe2, place, to2, at0, ix, it⟩ : Cm)) hSx (fun e he => (hiB e he).2); rw [hdo] at h9; exact h9.1
  exact ⟨y1.length - (k + 4), by omega, k + 4, z, _, _, _, _, _, _, _, _, by omega, hSz.up (by omega), shp_tr hshp (doV_pre hdo).1, app_tr hpr (doV_pre hdo).2, rfl, Hz.only [1, 2, 7, 8, 9], m110.ren [(20, 20), (21, 21), (22, 22), (23, 23), (30, 30), (31, 302), (32, 303), (33, 304)] (by decide)⟩
 intro hb69 Hz; try simp only [QQ, Qax] at hb69
 have hBx : VolB x := volS_B hSx (by omega)
 have hpre : preE v x := ⟨hshp, pre_len hpr, pre_take hpr⟩
 refine wcf Hz ?_
 refine wp_exit ?_
 refine hK6 _ _ ?_
 refine wsk fun K9 hK9 => ?_
 have hC9 : ∀ (a : Act) (w : World), (∃ (u : VolV) (Bv Bx Bu : Nat) (pu1 pu2 pu3 : Option Addr) (du1 du2 du3 : Nat), VolS y2.length u ∧ Has 103 [(7, .pointer (some ⟨Bv, 0, none⟩)), (8, .pointer (some ⟨Bx, 0, none⟩)), (10, .pointer (some ⟨Bu, 0, none⟩))] a ∧ MemOk (cn w0) w0 [(20, .box Bv 51 [.int .i64 v.vo, .int .i64 v.bl, .int .i64 v.sz, .int .i64 v.pe, .slice pv1 v.place.length dv1, .int .i64 v.to, .int .i64 v.ne, .bool v.hi, .int .i64 v.fl, .slice pv2 v.pins.length dv2, .slice pv3 (v.ws.map wrD).length dv3]), (21, .dat (.slice pv1 v.place.length dv1) (.ns .i64 v.place)), (22, .dat (.slice pv2 v.pins.length dv2) (.ns .i64 v.pins)), (23, .dat (.slice pv3 (v.ws.map wrD).length dv3) (.l 2 (v.ws.map wrD))), (30, .box Bx 51 [.int .i64 x.vo, .int .i64 x.bl, .int .i64 x.sz, .int .i64 x.pe, .slice px1 x.place.length dx1, .int .i64 x.to, .int .i64 x.ne, .bool x.hi, .int .i64 x.fl, .slice px2 x.pins.length dx2, .slice px3 (x.ws.map wrD).length dx3]), (31, .dat (.slice px1 x.place.length dx1) (.ns .i64 x.place)), (32, .dat (.slice px2 x.pins.length dx2) (.ns .i64 x.pins)), (33, .dat (.slice px3 (x.ws.map wrD).length dx3) (.l 2 (x.ws.map wrD))), (40, .box Bu 51 [.int .i64 u.vo, .int .i64 u.bl, .int .i64 u.sz, .int .i64 u.pe, .slice pu1 u.place.length du1, .int .i64 u.to, .int .i64 u.ne, .bool u.hi, .int .i64 u.fl, .slice pu2 u.pins.length du2, .slice pu3 (u.ws.map wrD).length du3]), (41, .dat (.slice pu1 u.place.length du1) (.ns .i64 u.place)), (42, .dat (.slice pu2 u.pins.length du2) (.ns .i64 u.pins)), (43, .dat (.slice pu3 (u.ws.map wrD).length du3) (.l 2 (u.ws.map wrD)))] w) → K9 a w := by
   clear Hz m63
   rintro Az w115 ⟨u, Bv, Bx, Bu, pu1, pu2, pu3, du1, du2, du3, hSu, Hz, m115⟩
   refine hK9 _ _ ?_
   refine wsk fun K10 hK10 => ?_
   have m116 := m115.oz [20, 21, 22, 23, 30, 31, 32, 33, 40, 41, 42, 43]
   refine region_p 40 (B := [(20, _), (21, _), (22, _), (23, _), (30, _), (31, _), (32, _), (33, _), (40, _), (41, _), (42, _), (43, _)]) (m116.to ⟨il, il, il, il, il, il, il, il, il, il, il, il, trivial⟩) m116 (by kernel_rfl) (fun w117 hP117 m117 => ?_); clear m116
   refine goR hP117 [0, 1] [0, 1] 2 0 3 Hz (m117.to ⟨il, il, il, il, il, il, il, il, il, il, il, il, trivial⟩) (.loadBR hh (i := 20) rfl rfl U51 rfl fct13 (by simp) (by dsimp only [List.drop, List.take] <;> rfl) <| .loadBR hh (i := 30) rfl rfl U51 rfl fct13 (by simp) (by dsimp only [List.drop, List.take] <;> rfl) .nil) fun Az Hz => ?_
   refine so 2 ?_
   refine ecb Hz Tryz.func36 rfl m117 (boolT (decide_eq_true hpre) (mpre v x _ _ _ _ _ _ _ _ _ _ _ _ _ _ _ hBv hBx ((m117.rd (i := 21) rfl).any) ((m117.rd (i := 23) rfl).any) ((m117.rd (i := 31) rfl).any) ((m117.rd (i := 33) rfl).any))) fun Az w120 Hz m121 => ?_
   refine ⟨m121.to ⟨il, il, il, il, il, il, il, il, il, il, il, il, trivial⟩, ?_⟩
   refine goR hP117 [3, 4, 5, 7, 8, 9, 10, 11, 12, 13] [4, 5, 8, 11] 10 7 16319 Hz (m121.to ⟨il, il, il, il, il, il, il, il, il, il, il, il, trivial⟩) (.move rfl <| .loadBR hh (i := 30) rfl rfl U51 rfl fct13 (by simp) (by dsimp only [List.drop, List.take] <;> rfl) <| .loadBR hh (i := 20) rfl rfl U51 rfl fct13 (by simp) (by dsimp only [List.drop, List.take] <;> rfl) <| .fa 10 rfl U51 <| .lb hh 30 U49 rfl rfl rfl <| .len rfl U49 <| .fa 10 rfl U51 <| .lb hh 20 U49 rfl rfl rfl <| .len rfl U49 <| .eql rfl rfl .nil) fun Az Hz => ?_
   refine stepE_only 6 rfl (by kernel_rfl) (wantedG Hz rfl rfl rfl rfl) (fun K hK => ?_)
   refine e_call Hz Tryz.func36 rfl rfl rfl rfl (mpre x v _ _ _ _ _ _ _ _ _ _ _ _ _ _ _ hBx hBv ((m121.rd (i := 31) rfl).any) ((m121.rd (i := 33) rfl).any) ((m121.rd (i := 21) rfl).any) ((m121.rd (i := 23) rfl).any)) ?_
   rintro e w133 ⟨rfl, hb133⟩
   have m134 := m121.later hb133
   refine ⟨_, rfl, ?_⟩; intro Az Hz
   refine hK _ _ (m134.to ⟨il, il, il, il, il, il, il, il, il, il, il, il, trivial⟩) ?_; clear hK K
   refine goA hP117 [14, 15, 16] 3 16383 131071 Hz (m134.to ⟨il, il, il, il, il, il, il, il, il, il, il, il, trivial⟩) (.eqlB rfl rfl U4 <| .pickT rfl rfl <| .move rfl .nil) fun Az Hz => ?_
   refine bc Hz 80 ?_ ?_
   rotate_left
   · intro hb _; exact absurd hb (fun h9 => Bool.noConfusion ((pre_back hshp hpr).symm.trans h9))
   clear Hz; intro _ Hz
   refine goR hP117 [17, 18, 20, 21] [17, 18, 20, 21] 4 131071 3670015 Hz (m134.to ⟨il, il, il, il, il, il, il, il, il, il, il, il, trivial⟩) (.loadBR hh (i := 20) rfl rfl U51 rfl fct13 (by simp) (by dsimp only [List.drop, List.take] <;> rfl) <| .loadBR hh (i := 40) rfl rfl U51 rfl fct13 (by simp) (by dsimp only [List.drop, List.take] <;> rfl) <| .loadBR hh (i := 20) rfl rfl U51 rfl fct13 (by simp) (by dsimp only [List.drop, List.take] <;> rfl) <| .loadBR hh (i := 40) rfl rfl U51 rfl fct13 (by simp) (by dsimp only [List.drop, List.take] <;> rfl) .nil) fun Az Hz => ?_
   refine stepE_only 19 rfl (by kernel_rfl) (wantedG Hz rfl rfl rfl rfl) (fun K hK => ?_)
   refine e_call Hz Tryz.func36 rfl rfl rfl rfl (mpre v u _ _ _ _ _ _ _ _ _ _ _ _ _ _ _ hBv (volS_B hSu (by omega)) ((m134.rd (i := 21) rfl).any) ((m134.rd (i := 23) rfl).any) ((m134.rd (i := 41) rfl).any) ((m134.rd (i := 43) rfl).any)) ?_
   rintro e w144 ⟨rfl, hb144⟩
   have m145 := m134.later hb144
   refine ⟨_, rfl, ?_⟩; intro Az Hz
   refine hK _ _ (m145.to ⟨il, il, il, il, il, il, il, il, il, il, il, il, trivial⟩) ?_; clear hK K
   refine stepE_only 22 rfl (by kernel_rfl) (wantedG Hz rfl rfl rfl rfl) (fun K hK => ?_)
   refine e_call Hz Tryz.func37 rfl rfl rfl rfl (rpre v u _ _ _ _ _ _ _ _ _ _ _ _ _ _ _ hBv (volS_B hSu (by omega)) ((m145.rd (i := 21) rfl).any) ((m145.rd (i := 23) rfl).any) ((m145.rd (i := 41) rfl).any) ((m145.rd (i := 43) rfl).any)) ?_
   rintro e w147 ⟨rfl, hb147⟩
   have m148 := m145.later hb147
   refine ⟨_, rfl, ?_⟩; intro Az Hz
   refine hK _ _ (m148.to ⟨il, il, il, il, il, il, il, il, il, il, il, il, trivial⟩) ?_; clear hK K
   refine goA hP117 [23, 24, 25] 3 8388607 67108863 Hz (m148.to ⟨il, il, il, il, il, il, il, il, il, il, il, il, trivial⟩) (.eqlB rfl rfl U4 <| .pickT rfl rfl <| .move rfl .nil) fun Az Hz => ?_
   refine bc Hz 89 ?_ ?_
   rotate_left
   · intro hb _; exact absurd hb (fun h9 => Bool.noConfusion ((beq_self_eq_true _).symm.trans h9))
   clear Hz; intro _ Hz
   refine goR hP117 [26, 27, 29, 30] [26, 27, 29, 30] 4 67108863 1879048191 Hz (m148.to ⟨il, il, il, il, il, il, il, il, il, il, il, il, trivial⟩) (.loadBR hh (i := 20) rfl rfl U51 rfl fct13 (by simp) (by dsimp only [List.drop, List.take] <;> rfl) <| .loadBR hh (i := 30) rfl rfl U51 rfl fct13 (by simp) (by dsimp only [List.drop, List.take] <;> rfl) <| .loadBR hh (i := 20) rfl rfl U51 rfl fct13 (by simp) (by dsimp only [List.drop, List.take] <;> rfl) <| .loadBR hh (i := 30) rfl rfl U51 rfl fct13 (by simp) (by dsimp only [List.drop, List.take] <;> rfl) .nil) fun Az Hz => ?_
   refine stepE_only 28 rfl (by kernel_rfl) (wantedG Hz rfl rfl rfl rfl) (fun K hK => ?_)
   refine e_call Hz Tryz.func35 rfl rfl rfl rfl (msmP v x _ _ _ _ _ _ _ _ _ _ _ _ _ _ _ hBv hBx ((m148.rd (i := 21) rfl).any) ((m148.rd (i := 22) rfl).any) ((m148.rd (i := 23) rfl).any) ((m148.rd (i := 31) rfl).any) ((m148.rd (i := 32) rfl).any) ((m148.rd (i := 33) rfl).any)) ?_
   rintro e w158 ⟨rfl, hb158⟩
   have m159 := m148.later hb158
   refine ⟨_, rfl, ?_⟩; intro Az Hz
   refine hK _ _ (m159.to ⟨il, il, il, il, il, il, il, il, il, il, il, il, trivial⟩) ?_; clear hK K
   refine stepE_only 31 rfl (by kernel_rfl) (wantedG Hz rfl rfl rfl rfl) (fun K hK => ?_)
   refine e_call Hz Tryz.func20 rfl rfl rfl rfl (rsme v x _ _ _ _ _ _ _ _ _ _ _ _ _ _ _ hBv hBx ((m159.rd (i := 21) rfl).any) ((m159.rd (i := 22) rfl).any) ((m159.rd (i := 23) rfl).any) ((m159.rd (i := 31) rfl).any) ((m159.rd (i := 32) rfl).any) ((m159.rd (i := 33) rfl).any)) ?_
   rintro e w161 ⟨rfl, hb161⟩
   have m162 := m159.later hb161
   refine ⟨_, rfl, ?_⟩; intro Az Hz
   refine hK _ _ (m162.to ⟨il, il, il, il, il, il, il, il, il, il, il, il, trivial⟩) ?_; clear hK K
   refine goA hP117 [32, 33, 34] 3 4294967295 34359738367 Hz (m162.to ⟨il, il, il, il, il, il, il, il, il, il, il, il, trivial⟩) (.eqlB rfl rfl U4 <| .pickT rfl rfl <| .move rfl .nil) fun Az Hz => ?_
   refine bc Hz 98 ?_ ?_
   rotate_left
   · intro hb _; exact absurd hb (fun h9 => Bool.noConfusion ((samPE _ _).symm.trans h9))
   clear Hz; intro _ Hz
   refine goR hP117 [35, 36] [35, 36] 2 34359738367 137438953471 Hz (m162.to ⟨il, il, il, il, il, il, il, il, il, il, il, il, trivial⟩) (.loadBR hh (i := 30) rfl rfl U51 rfl fct13 (by simp) (by dsimp only [List.drop, List.take] <;> rfl) <| .loadBR hh (i := 30) rfl rfl U51 rfl fct13 (by simp) (by dsimp only [List.drop, List.take] <;> rfl) .nil) fun Az Hz => ?_
   refine stepE_only 37 rfl (by kernel_rfl) (wantedG Hz rfl rfl rfl rfl) (fun K hK => ?_)
   refine e_call Hz Tryz.func35 rfl rfl rfl rfl (sameT x _ _ _ _ _ _ _ _ _ _ _ _ _ _ _ hBx ((m162.rd (i := 31) rfl).any) ((m162.rd (i := 32) rfl).any) ((m162.rd (i := 33) rfl).any) ((m162.rd (i := 31) rfl).any) ((m162.rd (i := 32) rfl).any) ((m162.rd (i := 33) rfl).any)) ?_
   rintro e w170 ⟨rfl, hb170⟩
   have m171 := m162.later hb170
   refine ⟨_, rfl, ?_⟩; intro Az Hz
   refine hK _ _ (m171.to ⟨il, il, il, il, il, il, il, il, il, il, il, il, trivial⟩) ?_; clear hK K
   refine goA hP117 [38, 39] 2 274877906943 1099511627775 Hz (m171.to ⟨il, il, il, il, il, il, il, il, il, il, il, il, trivial⟩) (.pickT rfl rfl <| .assign rfl .nil) fun Az Hz => ?_
   refine wpAnyE_done (by kernel_rfl) ?_ _
   refine hK10 _ _ ?_
   refine rt1 Hz ?_
   exact ⟨rfl, m171.below⟩
 refine wp_region_lit ?_
 refine goCh Hz (.move rfl .nil) fun Az Hz => ?_
 refine plz (ecl Hz Tryz.func34 rfl (svol_any y2 _ _ _ ((h2.now' m63 rfl).any) (by omega) hb2) ?_)
 rintro e w176 ⟨u, pu1, pu2, pu3, du1, du2, du3, rfl, hSu, ha176, hc176, hd176, hb176⟩
 have m177 := m63.callF3 300 301 302 rfl rfl rfl hb176 ha176 hc176 hd176
 clear ha176 hc176 hd176 hb176
 refine ⟨_, rfl, ?_⟩; intro Az Hz
 refine plz (e_alloc Hz m177 303 fct14 rfl fun g179 Az w180 Hz m180 _ _ => ?_)
 refine plz (stw Hz m180 303 fct13 fun w181 m181 _ => ?_)
 refine wpList_nil ?_
 show K9 _ _
 exact hC9 _ _ ⟨u, _, _, _, _, _, _, _, _, _, hSu, Hz.only [7, 8, 10], m181.ren [(20, 20), (21, 21), (22, 22), (23, 23), (30, 30), (31, 31), (32, 32), (33, 33), (40, 303), (41, 300), (42, 301), (43, 302)] (by decide)⟩
end
end Go.Proofs.YtkehgingagggaaaGreat.K
