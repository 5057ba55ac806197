/- General laws of walks. -/
import Derived.Test.YtamjnimaeecmoaaGreatG4
import Derived.Test.YtamjnimaeecmoaaGreatG3
import Derived.Test.YtamjnimaeecmoaaGreatG2
import Derived.Test.YtamjnimaeecmoaaGreatG1
namespace Go.Proofs.YtamjnimaeecmoaaGreat.K
open Go.ChangeShapes Go.WideShapes Go.ChangeAt Go.RowKit
set_option linter.unusedVariables false
set_option linter.unusedSimpArgs false
section
theorem fl33mV : flatS Tryz.prog 33 [.int .i64 0, .int .i64 0, .int .i64 0, .int .i64 0, .slice none 0 0, .int .i64 0, .int .i64 0, .bool false, .int .i64 0, .slice none 0 0, .slice none 0 0] = true := by kernel_rfl
theorem fl84mA : flatS Tryz.prog 84 [.int .i64 0, .int .i64 0, .int .i64 0, .int .i64 0, .slice none 0 0] = true := by kernel_rfl
def volZ : VolV := ⟨0, 0, 0, 0, [], 0, 0, false, 0, [], []⟩
def newV (vo bl sz pe to : Int) (place : List Int) : VolV := ⟨vo, bl, sz, pe, place, to, 0, decide (0 < to), 0, [], []⟩
theorem newV_s {n : Nat} {vo bl sz pe to : Int} {place : List Int} (hN : NewOk vo bl sz pe to place) : VolS n (newV vo bl sz pe to place) := ⟨VolR.new hN, fun _ => rfl, Nat.zero_le _, Nat.zero_le _, fun _ h => by cases h⟩
theorem Rd.capL {S : Nat → Prop} {w : World} {p : Option Addr} {l c m : Nat} {rows : List (List D)} (h : Rd S w (.slice p l c) (.l m rows)) : rows.length ≤ c := by
 obtain ⟨pq, cq, hv, hc⟩ := h.l_shape
 injection hv with _ _ e3; omega
theorem itok {d : List Int} (h : d.length ≤ 32) : d.length ≤ 140737488351232 := by omega
theorem rnew_non (kd vo bl sz pe to at0 ix : Int) (place : List Int) (pp pi : Option Addr) (cp ni ci : Nat) (w0 : World) (h0 : Rd (fun _ => True) w0 (.slice pp place.length cp) (.ns .i64 place)) (hn : place.length ≤ 1000000) (hN : ¬ NewOk vo bl sz pe to place) :
   Calls Tryz.prog 32 #[.agg #[.int .i64 kd, .int .i64 vo, .int .i64 bl, .int .i64 sz, .int .i64 pe, .slice pp place.length cp, .int .i64 to, .int .i64 at0, .int .i64 ix, .slice pi ni ci]] w0 fun e w' => e = .returned (.tuple #[.agg #[.int .i64 0, .int .i64 0, .int .i64 0, .int .i64 0, .slice none 0 0, .int .i64 0, .int .i64 0, .bool false, .int .i64 0, .slice none 0 0, .slice none 0 0], .int .i64 23]) ∧ Below w0.heap.size w0 w' :=
 (rnew_any kd vo bl sz pe to at0 ix place pp pi cp ni ci w0 h0 hn).mono (fun _ _ h => h.elim (fun h => absurd h.1 hN) (fun h => h.2))
set_option maxRecDepth 100000
set_option maxHeartbeats 4000000
theorem rmVol (X : Cx) (B : Nat) (L : List VolV) (p : Option Addr) (c : Nat) (vo : Int) (w0 : World) (hl : L.length ≤ 1000000) (m0 : MemOk X w0 [(1, .box B 75 [.slice p (L.map volD).length c]), (2, .dat (.slice p (L.map volD).length c) (.l 11 (L.map volD)))] w0) :
   Calls Tryz.prog 28 #[.pointer (some ⟨B, 0, none⟩), .int .i64 vo] w0 fun e w' => ∃ (x : VolV) (there : Bool) (p1 p2 p3 : Option Addr) (d1 d2 d3 : Nat), e = .returned (.tuple #[.agg #[.int .i64 x.vo, .int .i64 x.bl, .int .i64 x.sz, .int .i64 x.pe, .slice p1 x.place.length d1, .int .i64 x.to, .int .i64 x.ne, .bool x.hi, .int .i64 x.fl, .slice p2 x.pins.length d2, .slice p3 (x.ws.map wrD).length d3], .bool there]) ∧ (there = true → x ∈ L) ∧ (there = false → x = volZ) ∧ MemOk X w0 [(1, .box B 75 [.slice p (L.map volD).length c]), (2, .dat (.slice p (L.map volD).length c) (.l 11 (L.map volD))), (3, .dat (.slice p1 x.place.length d1) (.ns .i64 x.place)), (4, .dat (.slice p2 x.pins.length d2) (.ns .i64 x.pins)), (5, .dat (.slice p3 (x.ws.map wrD).length d3) (.l 2 (x.ws.map wrD)))] w' := by
 refine ent2 Tryz.func28 rfl Tryz.ntmps28 fun Az Hz => ?_
 refine zsr fun K0 hK0 => ?_
 refine plz (e_alloc Hz m0 20 fct2 rfl fun g1 Az w2 Hz m2 _ _ => ?_)
 refine gz hK0 Hz (.assign rfl .nil) fun Az Hz => ?_
 refine zsr fun K1 hK1 => ?_
 refine goCh Hz (.move rfl <| .move rfl .nil) fun Az Hz => ?_
 refine plz (ecl Hz Tryz.func56 rfl (rfind _ _ L _ _ _ _ hl (m2.into [(1, 1), (2, 2)] (by decide) rfl)) ?_)
 rintro e w8 ⟨j, rfl, hj1, hj2, hm8⟩
 have mx8 := m2.back hm8 [(1, 1), (2, 2)] (by decide); clear hm8 m2
 have m8 := mx8.oz [1, 2, 20]
 refine ⟨_, rfl, ?_⟩; intro Az Hz
 refine gz hK1 Hz (.assign rfl .nil) fun Az Hz => ?_
 refine wsk fun K2 hK2 => ?_
 refine regS Hz (.move rfl <| .lss rfl rfl .nil) fun Az Hz => ?_
 refine bc Hz 11 ?_ ?_
 ·
  intro hb13 Hz; try simp only [QQ, Qax] at hb13
  refine wct Hz ?_
  replace Hz := Hz.oz [0, 4, 5, 6]
  refine zsr fun K3 hK3 => ?_
  refine goCh Hz (.build rfl fct2 fl33mV rfl (by dsimp only [setL, List.set] <;> rfl) .nil) fun Az Hz => ?_
  refine plz (stw Hz m8 20 fct1 fun w17 m17 _ => ?_)
  refine gz hK3 Hz (.assign rfl .nil) fun Az Hz => ?_
  refine rtd (retCT (fn := Tryz.f28) Hz m17 (i := 20) rfl rfl rfl rfl U33 rfl fct1 ?_)
  have mA := m17.dat 91 rfl (Rd.nilN _ _ .i64 none)
  have mB := mA.dat 92 rfl (Rd.nilN _ _ .i64 none)
  have mC := mB.dat 93 rfl (Rd.l0 none 0 2)
  exact ⟨volZ, false, _, _, _, _, _, _, rfl, (fun h => by cases h), (fun _ => rfl), mC.ren [(1, 1), (2, 2), (3, 91), (4, 92), (5, 93)] (by decide)⟩
 intro hb13 Hz; try simp only [QQ, Qax] at hb13
 revert Hz
 obtain ⟨jn, rfl⟩ : ∃ jn : Nat, j = (jn : Int) := ⟨j.toNat, by omega⟩
 intro Hz
 have hjl : jn < L.length := by omega
 obtain ⟨x, hes⟩ : ∃ x, L[jn]? = some x := ⟨_, List.getElem?_eq_getElem hjl⟩
 refine wcf Hz ?_
 refine zss (hK2 _ _ ?_)
 replace Hz := Hz.oz [0, 4, 5, 6]
 refine zsr fun K4 hK4 => ?_
 refine goCh Hz (.move rfl <| .nilCheck rfl <| .fa 0 rfl U75 <| .lb m8 1 U73 rfl rfl rfl <| .move rfl .nil) fun Az Hz => ?_
 obtain ⟨b31, o31, vs31, hp31, hR31, ho31, m31⟩ := m8.openR (i := 2) rfl (jn) (r := [.v (.int .i64 x.vo), .v (.int .i64 x.bl), .v (.int .i64 x.sz), .v (.int .i64 x.pe), .ns .i64 x.place, .v (.int .i64 x.to), .v (.int .i64 x.ne), .v (.bool x.hi), .v (.int .i64 x.fl), .ns .i64 x.pins, .l 2 (x.ws.map wrD)]) (volD_get hes) 21 rfl
 revert Hz
 cases hp31; clear m8 ho31
 rcases hR31 with _ | ⟨hd31_0, _ | ⟨hd31_1, _ | ⟨hd31_2, _ | ⟨hd31_3, _ | ⟨hd31_4, _ | ⟨hd31_5, _ | ⟨hd31_6, _ | ⟨hd31_7, _ | ⟨hd31_8, _ | ⟨hd31_9, _ | ⟨hd31_10, _ | _⟩⟩⟩⟩⟩⟩⟩⟩⟩⟩⟩
 obtain rfl := hd31_0.v_out
 clear hd31_0
 obtain rfl := hd31_1.v_out
 clear hd31_1
 obtain rfl := hd31_2.v_out
 clear hd31_2
 obtain rfl := hd31_3.v_out
 clear hd31_3
 obtain ⟨p32, c32, hv32, hc32⟩ := hd31_4.ns_shape; subst hv32
 intro Hz
 have m32 := m31.dat 22 rfl (hd31_4.cast (fun _ h => (free_add rfl h))); clear m31 hd31_4
 revert Hz
 obtain rfl := hd31_5.v_out
 clear hd31_5
 obtain rfl := hd31_6.v_out
 clear hd31_6
 obtain rfl := hd31_7.v_out
 clear hd31_7
 obtain rfl := hd31_8.v_out
 clear hd31_8
 obtain ⟨p33, c33, hv33, hc33⟩ := hd31_9.ns_shape; subst hv33
 intro Hz
 have m33 := m32.dat 23 rfl (hd31_9.cast (fun _ h => (free_add rfl (free_add rfl h)))); clear m32 hd31_9
 revert Hz
 obtain ⟨p34, c34, hv34, hc34⟩ := hd31_10.l_shape; subst hv34
 intro Hz
 have m34 := m33.dat 24 rfl (hd31_10.cast (fun _ h => (free_add rfl (free_add rfl (free_add rfl h))))); clear m33 hd31_10
 refine goCh Hz (.c rfl (fun _ h_ => y_idx h_ rfl rfl U73 fct1 (jn) rfl (by simpa using hjl)) <| .loadCR m34 (i := 21) rfl rfl U33 rfl fct1 .nil) fun Az Hz => ?_
 refine plz (stw Hz m34 20 fct1 fun w37 m37 _ => ?_)
 refine gz hK4 Hz (.assign rfl .nil) fun Az Hz => ?_
 refine rtd (retCT (fn := Tryz.f28) Hz m37 (i := 20) rfl rfl rfl rfl U33 rfl fct1 ?_)
 exact ⟨x, true, _, _, _, _, _, _, rfl, (fun _ => List.mem_of_getElem? hes), (fun h => by cases h), m37.ren [(1, 1), (2, 2), (3, 22), (4, 23), (5, 24)] (by decide)⟩
theorem rmApply (X : Cx) (B n : Nat) (L : List VolV) (p : Option Addr) (c : Nat) (b : List Int) (pb : Option Addr) (cb : Nat) (w0 : World) (hM : MacS n L) (hn : n ≤ 800000) (hb : b.length ≤ 1000000) (hbb : BytesL b) (m0 : MemOk X w0 [(1, .box B 75 [.slice p (L.map volD).length c]), (2, .dat (.slice p (L.map volD).length c) (.l 11 (L.map volD))), (3, .dat (.slice pb b.length cb) (.ns .u8 b))] w0) :
   Calls Tryz.prog 31 #[.pointer (some ⟨B, 0, none⟩), .slice pb b.length cb] w0 fun e w' => ∃ (e9 rl rf rn : Int) (L' : List VolV) (p' : Option Addr) (c' : Nat), e = .returned (.agg #[.int .i64 e9, .int .i64 rl, .int .i64 rf, .int .i64 rn, .slice none 0 0]) ∧ MacS (n + 1) L' ∧ MemOk X w0 [(1, .box B 75 [.slice p' (L'.map volD).length c']), (2, .dat (.slice p' (L'.map volD).length c') (.l 11 (L'.map volD)))] w' := by
 refine ent2 Tryz.func31 rfl Tryz.ntmps31 fun Az Hz => ?_
 have hl : L.length ≤ 1000000 := by have := hM.1; omega
 have hlm : (L.map volD).length ≤ 1000000 := by simpa using hl
 refine zsr fun K0 hK0 => ?_
 refine plz (e_alloc Hz m0 20 fct8 rfl fun g1 Az w2 Hz m2 _ _ => ?_)
 refine znl (hK0 _ _ ?_)
 refine zsr fun K1 hK1 => ?_
 refine goCh Hz (.move rfl .nil) fun Az Hz => ?_
 refine plz (ecl Hz Tryz.func62 rfl (rreadCmd _ b _ _ _ hb hbb (m2.into [(1, 3)] (by decide) rfl)) ?_)
 rintro e w5 ⟨kd, vo, bl, sz, pe, to, at0, ix, place, items, pp5, cp5, pi5, ci5, er, rfl, hpl, hil, hii, hm5⟩
 have mx5 := m2.back hm5 [(21, 1), (22, 2)] (by decide); clear hm5 m2
 have m5 := mx5.oz [21, 22, 1, 2, 20]
 refine ⟨_, rfl, ?_⟩; intro Az Hz
 refine goCh Hz (.move rfl <| .extract rfl rfl <| .extract rfl rfl .nil) fun Az Hz => ?_
 refine plz (e_alloc Hz m5 23 fct7 rfl fun g10 Az w11 Hz m11 _ _ => ?_)
 refine plz (stw Hz m11 23 fct5 fun w12 m12 _ => ?_)
 refine gz hK1 Hz (.assign rfl .nil) fun Az Hz => ?_
 refine wsk fun K2 hK2 => ?_
 replace Hz := Hz.oz [0, 4, 5, 6]
 refine regS Hz (.move rfl <| .neq rfl rfl .nil) fun Az Hz => ?_
 refine bc Hz 19 ?_ ?_
 ·
  intro hb17 Hz; try simp only [QQ, Qax] at hb17
  refine wct Hz ?_
  refine zsr fun K3 hK3 => ?_
  refine goCh Hz (.build rfl fct8 fl84mA rfl (by dsimp only [setL, List.set] <;> rfl) .nil) fun Az Hz => ?_
  refine plz (stw Hz m12 20 fct6 fun w20 m20 _ => ?_)
  refine znl (hK3 _ _ ?_)
  refine rtd (retC (fn := Tryz.f31) Hz m20 (i := 20) rfl rfl rfl U84 rfl fct6 ?_)
  exact ⟨_, _, _, _, L, _, _, rfl, hM.up (by omega), m20.only [1, 2]⟩
 intro hb17 Hz; try simp only [QQ, Qax] at hb17
 refine wcf Hz ?_
 refine zss (hK2 _ _ ?_)
 refine zsr fun K4 hK4 => ?_
 refine goCh Hz (.move rfl <| .fa 1 rfl U81 <| .lb m12 23 U3 rfl rfl rfl .nil) fun Az Hz => ?_
 refine plz (ecl Hz Tryz.func56 rfl (rfind _ _ L _ _ _ _ hl (m12.into [(1, 1), (2, 2)] (by decide) rfl)) ?_)
 rintro e w27 ⟨j, rfl, hj1, hj2, hm27⟩
 have mx27 := m12.back hm27 [(1, 1), (2, 2)] (by decide); clear hm27 m12
 have m27 := mx27.oz [1, 2, 20, 21, 22, 23]
 refine ⟨_, rfl, ?_⟩; intro Az Hz
 refine gz hK4 Hz (.assign rfl .nil) fun Az Hz => ?_
 replace Hz := Hz.oz [0, 4, 5, 7]
 refine zsr fun K5 hK5 => ?_
 refine goCh Hz (.move rfl <| .nilCheck rfl <| .fa 0 rfl U75 <| .lb m27 1 U73 rfl rfl rfl .nil) fun Az Hz => ?_
 have m39 := m27.nilR 24 33 11
 refine plz (e_appR Hz m39 24 rfl rfl rfl (m39.rd (i := 2) rfl) U73 fct3 rfl rfl (by decide) (by simp; omega) rfl fun p40 c40 Az w41 Hz m41 => ?_)
 refine gz hK5 Hz (.assign rfl .nil) fun Az Hz => ?_
 refine wsk fun K6 hK6 => ?_
 refine regS Hz (.fa 0 rfl U81 <| .lb m41 23 U3 rfl rfl rfl <| .eql rfl rfl .nil) fun Az Hz => ?_
 refine bc Hz 32 ?_ ?_
 ·
  intro hb46 Hz; try simp only [QQ, Qax] at hb46
  have hkd : kd = 1 := by simpa using hb46
  refine wct Hz ?_
  refine wsk fun K7 hK7 => ?_
  replace Hz := Hz.oz [0, 4, 5, 7, 8]
  refine zsr fun K8 hK8 => ?_
  have m49 := m41.freezeR 24 rfl
  refine gz hK8 Hz (.move rfl <| .geq rfl rfl <| .nil) fun Az Hz => ?_
  refine bc Hz 34 ?_ ?_
  ·
   intro hb52 Hz; try simp only [QQ, Qax] at hb52
   refine wct Hz ?_
   refine zsr fun K9 hK9 => ?_
   refine goCh Hz (.build rfl fct8 fl84mA rfl (by dsimp only [setL, List.set] <;> rfl) .nil) fun Az Hz => ?_
   refine plz (stw Hz m49 20 fct6 fun w55 m55 _ => ?_)
   refine znl (hK9 _ _ ?_)
   refine rtd (retC (fn := Tryz.f31) Hz m55 (i := 20) rfl rfl rfl U84 rfl fct6 ?_)
   exact ⟨_, _, _, _, L, _, _, rfl, hM.up (by omega), m55.only [1, 2]⟩
  intro hb52 Hz; try simp only [QQ, Qax] at hb52
  refine wcf Hz ?_
  refine zss (hK7 _ _ ?_)
  refine wsk fun K10 hK10 => ?_
  by_cases hN : NewOk vo bl sz pe to place
  ·
   refine wp_region_lit ?_
   refine goCh Hz (.loadBR m49 (i := 23) rfl rfl U81 rfl fct5 (by simp) (by dsimp only [List.drop, List.take] <;> rfl) .nil) fun Az Hz => ?_
   refine plz (ecl Hz Tryz.func32 rfl (rnew_yes _ vo bl sz pe to _ _ place _ _ _ _ _ _ ((m49.rd (i := 21) rfl).any) (by omega) hN) ?_)
   rintro e w57 ⟨p57, c57, rfl, hd57, hb57⟩
   have m58 := m49.callF 25 rfl hb57 hd57
   refine ⟨_, rfl, ?_⟩; intro Az Hz
   refine goCh Hz (.move rfl <| .extract rfl rfl <| .extract rfl rfl .nil) fun Az Hz => ?_
   refine plz (e_alloc Hz m58 26 fct2 rfl fun g63 Az w64 Hz m64 _ _ => ?_)
   refine plz (stw Hz m64 26 fct1 fun w65 m65 _ => ?_)
   refine gz hK10 Hz (.assign rfl .nil) fun Az Hz => ?_
   refine wsk fun K11 hK11 => ?_
   replace Hz := Hz.oz [0, 4, 5, 7, 8, 9, 10]
   refine regS Hz (.move rfl <| .neq rfl rfl .nil) fun Az Hz => ?_
   refine bc Hz 42 ?_ ?_
   · intro hb _; exact absurd hb (by simp)
   clear Hz; intro _ Hz
   refine wcf Hz ?_
   refine zss (hK11 _ _ ?_)
   refine regS Hz (.assign rfl .nil) fun Az Hz => ?_
   refine wsk fun K12 hK12 => ?_
   refine wp_block ?_
   refine wp_loop_ghost (fun g a w => ∃ (k B4 B5 B9 c8 c9 n1 d1 n2 d2 : Nat) (p8 p9 q1 q2 : Option Addr), k ≤ (L.map volD).length ∧ g = (L.map volD).length - k ∧ Has 97 [(0, .pointer (some ⟨B, 0, none⟩)), (4, .pointer (some ⟨B4, 0, none⟩)), (5, .pointer (some ⟨B5, 0, none⟩)), (7, .int .i64 k), (8, .slice p8 (L.map volD).length c8), (9, .pointer (some ⟨B9, 0, none⟩))] a ∧ MemOk X w0 [(1, .box B 75 [.slice p (L.map volD).length c]), (2, .dat (.slice p (L.map volD).length c) (.l 11 (L.map volD))), (4, .box B4 84 [.int .i64 0, .int .i64 0, .int .i64 0, .int .i64 0, .slice none 0 0]), (5, .box B5 81 [.int .i64 kd, .int .i64 vo, .int .i64 bl, .int .i64 sz, .int .i64 pe, .slice q1 n1 d1, .int .i64 to, .int .i64 at0, .int .i64 ix, .slice q2 n2 d2]), (9, .box B9 33 [.int .i64 vo, .int .i64 bl, .int .i64 sz, .int .i64 pe, .slice p9 place.length c9, .int .i64 to, .int .i64 0, .bool (decide (0 < to)), .int .i64 0, .slice none 0 0, .slice none 0 0]), (8, .dat (.slice p8 (L.map volD).length c8) (.l 11 (L.map volD))), (10, .dat (.slice p9 place.length c9) (.ns .i64 place))] w) ((L.map volD).length) ?_ ?_
   · exact ⟨0, _, _, _, _, _, _, _, _, _, _, _, _, _, Nat.zero_le _, rfl, Hz.only [0, 4, 5, 7, 8, 9], m65.ren [(1, 1), (2, 2), (4, 20), (5, 23), (9, 26), (8, 24), (10, 25)] (by decide)⟩
   clear Hz m65
   rintro g Az w72 ⟨k, B4, B5, B9, c8, c9, n1, d1, n2, d2, p8, p9, q1, q2, hkl, hg, Hz, m72⟩
   refine wsk fun K13 hK13 => ?_
   refine wsk fun K14 hK14 => ?_
   by_cases hk : k < (L.map volD).length
   ·
    obtain ⟨z9, hes9⟩ : ∃ x, L[k]? = some x := ⟨_, List.getElem?_eq_getElem (by simpa using hk)⟩
    obtain ⟨b73, o73, vs73, hp73, hR73, ho73, m73⟩ := m72.openR (i := 8) rfl (k) (r := [.v (.int .i64 z9.vo), .v (.int .i64 z9.bl), .v (.int .i64 z9.sz), .v (.int .i64 z9.pe), .ns .i64 z9.place, .v (.int .i64 z9.to), .v (.int .i64 z9.ne), .v (.bool z9.hi), .v (.int .i64 z9.fl), .ns .i64 z9.pins, .l 2 (z9.ws.map wrD)]) (volD_get hes9) 100 rfl
    revert Hz
    cases hp73; clear m72 ho73
    rcases hR73 with _ | ⟨hd73_0, _ | ⟨hd73_1, _ | ⟨hd73_2, _ | ⟨hd73_3, _ | ⟨hd73_4, _ | ⟨hd73_5, _ | ⟨hd73_6, _ | ⟨hd73_7, _ | ⟨hd73_8, _ | ⟨hd73_9, _ | ⟨hd73_10, _ | _⟩⟩⟩⟩⟩⟩⟩⟩⟩⟩⟩
    obtain rfl := hd73_0.v_out
    clear hd73_0
    obtain rfl := hd73_1.v_out
    clear hd73_1
    obtain rfl := hd73_2.v_out
    clear hd73_2
    obtain rfl := hd73_3.v_out
    clear hd73_3
    obtain ⟨p74, c74, hv74, hc74⟩ := hd73_4.ns_shape; subst hv74
    intro Hz
    have m74 := m73.dat 101 rfl (hd73_4.cast (fun _ h => (free_add rfl h))); clear m73 hd73_4
    revert Hz
    obtain rfl := hd73_5.v_out
    clear hd73_5
    obtain rfl := hd73_6.v_out
    clear hd73_6
    obtain rfl := hd73_7.v_out
    clear hd73_7
    obtain rfl := hd73_8.v_out
    clear hd73_8
    obtain ⟨p75, c75, hv75, hc75⟩ := hd73_9.ns_shape; subst hv75
    intro Hz
    have m75 := m74.dat 102 rfl (hd73_9.cast (fun _ h => (free_add rfl (free_add rfl h)))); clear m74 hd73_9
    revert Hz
    obtain ⟨p76, c76, hv76, hc76⟩ := hd73_10.l_shape; subst hv76
    intro Hz
    have m76 := m75.dat 103 rfl (hd73_10.cast (fun _ h => (free_add rfl (free_add rfl (free_add rfl h))))); clear m75 hd73_10
    have m77 := m76.oz [1, 2, 4, 5, 8, 9, 10, 100, 101, 102, 103]
    refine region_p 14 (B := [(1, _), (2, _), (4, _), (5, _), (8, _), (9, _), (10, _), (100, _), (101, _), (102, _), (103, _)]) (m77.to ⟨il, il, il, il, il, il, il, il, il, il, il, trivial⟩) m77 (by kernel_rfl) (fun w78 hP78 m78 => ?_); clear m77
    refine goA hP78 [0, 1, 2, 3, 4] 5 0 31 Hz (m78.to ⟨il, il, il, il, il, il, il, il, il, il, il, trivial⟩) (.move rfl <| .move rfl <| .len rfl U73 <| .lss rfl rfl <| .move rfl .nil) fun Az Hz => ?_
    refine bc Hz 49 ?_ ?_
    rotate_left
    · intro hb _; exact absurd hb (by simpa using hk)
    clear Hz; intro _ Hz
    refine goR hP78 [5, 6, 7, 8, 9, 10, 11, 12, 13] [9, 11] 9 31 16383 Hz (m78.to ⟨il, il, il, il, il, il, il, il, il, il, il, trivial⟩) (.move rfl <| .move rfl <| .p (fun _ _ h_ => y_idx h_ rfl rfl U73 fct1 (k) rfl hk) <| .fieldAddrQ 0 rfl U33 rfl (s := 0) (by kernel_rfl) rfl <| .loadC0 hh (i := 100) rfl rfl U3 rfl <| .fa 1 rfl U81 <| .lb hh 5 U3 rfl rfl rfl <| .lss rfl rfl <| .pickT rfl rfl .nil) fun Az Hz => ?_
    refine wpAnyE_done (by kernel_rfl) ?_ _
    refine hK14 _ _ ?_
    refine bc Hz 58 ?_ ?_
    ·
     intro hb94 Hz; try simp only [QQ, Qax] at hb94
     refine wct Hz ?_
     refine zss (hK13 _ _ ?_)
     refine wp_block ?_
     replace Hz := Hz.oz [0, 4, 5, 7, 8, 9]
     refine wp_region_lit ?_
     refine goCh Hz (.move rfl <| .inc (k + 1) <| .assign rfl .nil) fun Az Hz => ?_
     refine wpList_nil ?_
     show ∃ n', n' < _ ∧ _
     exact ⟨(L.map volD).length - (k + 1), by omega, k + 1, _, _, _, _, _, _, _, _, _, _, _, _, _, by omega, rfl, Hz.only [0, 4, 5, 7, 8, 9], m78.only [1, 2, 4, 5, 9, 8, 10]⟩
    intro hb94 Hz; try simp only [QQ, Qax] at hb94
    refine wcf Hz ?_
    refine wp_exit ?_
    refine hK12 _ _ ?_
    refine wsk fun K15 hK15 => ?_
    replace Hz := Hz.oz [0, 4, 5, 7, 8, 9]
    have m100 := m78.oz [1, 2, 4, 5, 8, 9, 10, 100, 101, 102, 103]
    refine region_p 14 (B := [(1, _), (2, _), (4, _), (5, _), (8, _), (9, _), (10, _), (100, _), (101, _), (102, _), (103, _)]) (m100.to ⟨il, il, il, il, il, il, il, il, il, il, il, trivial⟩) m100 (by kernel_rfl) (fun w101 hP101 m101 => ?_); clear m100
    refine goA hP101 [0, 1, 2] 3 0 7 Hz (m101.to ⟨il, il, il, il, il, il, il, il, il, il, il, trivial⟩) (.move rfl <| .move rfl <| .move rfl .nil) fun Az Hz => ?_
    have hcap106 := Rd.capL (m101.rd (i := 8) rfl)
    have m105 := m101.takeR (i := 8) rfl k hkl 104 rfl
    refine goR hP101 [3, 5, 8, 9] [5] 4 7 815 Hz (m105.to ⟨il, il, il, il, il, il, il, il, il, il, il, trivial⟩) (.p (fun _ _ h_ => y_sliceHn h_ k rfl rfl U73 fct1 rfl (Nat.le_trans hkl hcap106)) <| .loadBR hh (i := 9) rfl rfl U33 rfl fct1 (by simp) (by dsimp only [List.drop, List.take] <;> rfl) <| .move rfl <| .move rfl .nil) fun Az Hz => ?_
    have m111 := m105.dropR (i := 8) rfl k hkl 105 rfl
    refine goA hP101 [10] 1 815 1839 Hz (m111.to ⟨il, il, il, il, il, il, il, il, il, il, il, trivial⟩) (.p (fun _ _ h_ => y_sliceLn h_ k rfl rfl U73 fct1 rfl hkl) .nil) fun Az Hz => ?_
    refine d_two 4 6 rfl rfl (by kernel_rfl) rfl rfl (fun K hK => ?_) (fun K hK => ?_)
    ·
     have m113 := m111.nilR 106 33 11
     refine e_appR Hz m113 106 rfl rfl rfl (m113.rd (i := 104) rfl) U73 fct3 rfl rfl (by decide) (by simp; omega) rfl ?_
     intro p114 c114 Az w115 Hz m115
     refine hK _ _ (fun _ => (m115.to ⟨il, il, il, il, il, il, il, il, il, il, il, trivial⟩)) ?_; clear hK K
     refine so 6 ?_
     refine e_litR Hz m115 107 (mm := 11) rfl (.cons rfl rfl (.cons (.v _) (.cons (.v _) (.cons (.v _) (.cons (.v _) (.cons (m115.rd (i := 10) rfl) (.cons (.v _) (.cons (.v _) (.cons (.v _) (.cons (.v _) (.cons (Rd.nilN _ _ .i64 _) (.cons (.l0 _ _ 2) .nil))))))))))) .nil) U73 fct3 rfl rfl rfl rfl rfl fun g116 Az w117 Hz m117 => ?_
     refine ⟨m117.to ⟨il, il, il, il, il, il, il, il, il, il, il, trivial⟩, ?_⟩
     have m119 := m117.freezeR 107 rfl
     refine so 7 ?_
     refine e_appR Hz m119 106 rfl rfl rfl (m119.rd (i := 107) rfl) U73 fct3 rfl rfl (by decide) (by simp; omega) rfl fun p118 c118 Az w120 Hz m120 => ?_
     refine ⟨m120.to ⟨il, il, il, il, il, il, il, il, il, il, il, trivial⟩, ?_⟩
     refine so 11 ?_
     refine e_appR Hz m120 106 rfl rfl rfl (m120.rd (i := 105) rfl) U73 fct3 rfl rfl (by decide) (by simp; omega) rfl fun p121 c121 Az w122 Hz m122 => ?_
     refine ⟨m122.to ⟨il, il, il, il, il, il, il, il, il, il, il, trivial⟩, ?_⟩
     refine goA hP101 [12, 13] 2 4095 16383 Hz (m122.to ⟨il, il, il, il, il, il, il, il, il, il, il, trivial⟩) (.nilCheck rfl <| .fa 0 rfl U75 .nil) fun Az Hz => ?_
     refine se 14 ?_
     refine st1 Hz m122 1 fct4 fun w125 m125 _ => ?_
     refine wpAnyE_done (by kernel_rfl) ?_ _
     refine hK15 _ _ ?_
     replace Hz := Hz.oz [0, 4, 5, 7, 8, 9]
     refine zsr fun K16 hK16 => ?_
     refine goCh Hz (.build rfl fct8 fl84mA rfl (by dsimp only [setL, List.set] <;> rfl) .nil) fun Az Hz => ?_
     refine plz (stw Hz m125 4 fct6 fun w129 m129 _ => ?_)
     refine znl (hK16 _ _ ?_)
     refine rtd (retC (fn := Tryz.f31) Hz m129 (i := 4) rfl rfl rfl U84 rfl fct6 ?_)
     have m130 := m129.freezeR 106 rfl
     have hrw : [] ++ List.take k (L.map volD) ++ [[.v (.int .i64 (newV vo bl sz pe to place).vo), .v (.int .i64 (newV vo bl sz pe to place).bl), .v (.int .i64 (newV vo bl sz pe to place).sz), .v (.int .i64 (newV vo bl sz pe to place).pe), .ns .i64 (newV vo bl sz pe to place).place, .v (.int .i64 (newV vo bl sz pe to place).to), .v (.int .i64 (newV vo bl sz pe to place).ne), .v (.bool (newV vo bl sz pe to place).hi), .v (.int .i64 (newV vo bl sz pe to place).fl), .ns .i64 (newV vo bl sz pe to place).pins, .l 2 ((newV vo bl sz pe to place).ws.map wrD)]] ++ List.drop k (L.map volD) = (L.take k ++ [newV vo bl sz pe to place] ++ L.drop k).map volD := by simp [volD, newV]
     simp only [newV] at hrw
     erw [hrw] at m130
     exact ⟨_, _, _, _, L.take k ++ [newV vo bl sz pe to place] ++ L.drop k, _, _, rfl, hM.ins (newV_s hN) k, m130.ren [(1, 1), (2, 106)] (by decide)⟩
    refine e_litR Hz m111 106 (mm := 11) rfl (.cons rfl rfl (.cons (.v _) (.cons (.v _) (.cons (.v _) (.cons (.v _) (.cons (m111.rd (i := 10) rfl) (.cons (.v _) (.cons (.v _) (.cons (.v _) (.cons (.v _) (.cons (Rd.nilN _ _ .i64 _) (.cons (.l0 _ _ 2) .nil))))))))))) .nil) U73 fct3 rfl rfl rfl rfl rfl ?_
    intro g131 Az w132 Hz m132
    refine hK _ _ (fun _ => (m132.to ⟨il, il, il, il, il, il, il, il, il, il, il, trivial⟩)) ?_; clear hK K
    have m133 := m132.nilR 107 33 11
    refine so 4 ?_
    refine e_appR Hz m133 107 rfl rfl rfl (m133.rd (i := 104) rfl) U73 fct3 rfl rfl (by decide) (by simp; omega) rfl fun p134 c134 Az w135 Hz m135 => ?_
    refine ⟨m135.to ⟨il, il, il, il, il, il, il, il, il, il, il, trivial⟩, ?_⟩
    have m137 := m135.freezeR 106 rfl
    refine so 7 ?_
    refine e_appR Hz m137 107 rfl rfl rfl (m137.rd (i := 106) rfl) U73 fct3 rfl rfl (by decide) (by simp; omega) rfl fun p136 c136 Az w138 Hz m138 => ?_
    refine ⟨m138.to ⟨il, il, il, il, il, il, il, il, il, il, il, trivial⟩, ?_⟩
    refine so 11 ?_
    refine e_appR Hz m138 107 rfl rfl rfl (m138.rd (i := 105) rfl) U73 fct3 rfl rfl (by decide) (by simp; omega) rfl fun p139 c139 Az w140 Hz m140 => ?_
    refine ⟨m140.to ⟨il, il, il, il, il, il, il, il, il, il, il, trivial⟩, ?_⟩
    refine goA hP101 [12, 13] 2 4095 16383 Hz (m140.to ⟨il, il, il, il, il, il, il, il, il, il, il, trivial⟩) (.nilCheck rfl <| .fa 0 rfl U75 .nil) fun Az Hz => ?_
    refine se 14 ?_
    refine st1 Hz m140 1 fct4 fun w143 m143 _ => ?_
    refine wpAnyE_done (by kernel_rfl) ?_ _
    refine hK15 _ _ ?_
    replace Hz := Hz.oz [0, 4, 5, 7, 8, 9]
    refine zsr fun K17 hK17 => ?_
    refine goCh Hz (.build rfl fct8 fl84mA rfl (by dsimp only [setL, List.set] <;> rfl) .nil) fun Az Hz => ?_
    refine plz (stw Hz m143 4 fct6 fun w147 m147 _ => ?_)
    refine znl (hK17 _ _ ?_)
    refine rtd (retC (fn := Tryz.f31) Hz m147 (i := 4) rfl rfl rfl U84 rfl fct6 ?_)
    have m148 := m147.freezeR 107 rfl
    have hrw : [] ++ List.take k (L.map volD) ++ [[.v (.int .i64 (newV vo bl sz pe to place).vo), .v (.int .i64 (newV vo bl sz pe to place).bl), .v (.int .i64 (newV vo bl sz pe to place).sz), .v (.int .i64 (newV vo bl sz pe to place).pe), .ns .i64 (newV vo bl sz pe to place).place, .v (.int .i64 (newV vo bl sz pe to place).to), .v (.int .i64 (newV vo bl sz pe to place).ne), .v (.bool (newV vo bl sz pe to place).hi), .v (.int .i64 (newV vo bl sz pe to place).fl), .ns .i64 (newV vo bl sz pe to place).pins, .l 2 ((newV vo bl sz pe to place).ws.map wrD)]] ++ List.drop k (L.map volD) = (L.take k ++ [newV vo bl sz pe to place] ++ L.drop k).map volD := by simp [volD, newV]
    simp only [newV] at hrw
    erw [hrw] at m148
    exact ⟨_, _, _, _, L.take k ++ [newV vo bl sz pe to place] ++ L.drop k, _, _, rfl, hM.ins (newV_s hN) k, m148.ren [(1, 1), (2, 107)] (by decide)⟩
   have m149 := m72.oz [1, 2, 4, 5, 8, 9, 10]
   refine region_p 14 (B := [(1, _), (2, _), (4, _), (5, _), (8, _), (9, _), (10, _)]) (m149.to ⟨il, il, il, il, il, il, il, trivial⟩) m149 (by kernel_rfl) (fun w150 hP150 m150 => ?_); clear m149
   refine goA hP150 [0, 1, 2, 3, 4] 5 0 31 Hz (m150.to ⟨il, il, il, il, il, il, il, trivial⟩) (.move rfl <| .move rfl <| .len rfl U73 <| .lss rfl rfl <| .move rfl .nil) fun Az Hz => ?_
   refine bc Hz 49 ?_ ?_
   · intro hb _; exact absurd hb (by simpa using hk)
   clear Hz; intro _ Hz
   refine goA hP150 [5, 6, 7, 8, 9, 10, 11, 12, 13] 9 31 16383 Hz (m150.to ⟨il, il, il, il, il, il, il, trivial⟩) (.s <| .s <| .s <| .s <| .s <| .s <| .s <| .s <| .pickF rfl rfl .nil) fun Az Hz => ?_
   refine wpAnyE_done (by kernel_rfl) ?_ _
   refine hK14 _ _ ?_
   refine wcf Hz ?_
   refine wp_exit ?_
   refine hK12 _ _ ?_
   refine wsk fun K18 hK18 => ?_
   replace Hz := Hz.oz [0, 4, 5, 7, 8, 9]
   have m167 := m150.oz [1, 2, 4, 5, 8, 9, 10]
   refine region_p 14 (B := [(1, _), (2, _), (4, _), (5, _), (8, _), (9, _), (10, _)]) (m167.to ⟨il, il, il, il, il, il, il, trivial⟩) m167 (by kernel_rfl) (fun w168 hP168 m168 => ?_); clear m167
   refine goA hP168 [0, 1, 2] 3 0 7 Hz (m168.to ⟨il, il, il, il, il, il, il, trivial⟩) (.move rfl <| .move rfl <| .move rfl .nil) fun Az Hz => ?_
   have hcap173 := Rd.capL (m168.rd (i := 8) rfl)
   have m172 := m168.takeR (i := 8) rfl k hkl 100 rfl
   refine goR hP168 [3, 5, 8, 9] [5] 4 7 815 Hz (m172.to ⟨il, il, il, il, il, il, il, trivial⟩) (.p (fun _ _ h_ => y_sliceHn h_ k rfl rfl U73 fct1 rfl (Nat.le_trans hkl hcap173)) <| .loadBR hh (i := 9) rfl rfl U33 rfl fct1 (by simp) (by dsimp only [List.drop, List.take] <;> rfl) <| .move rfl <| .move rfl .nil) fun Az Hz => ?_
   have m178 := m172.dropR (i := 8) rfl k hkl 101 rfl
   refine goA hP168 [10] 1 815 1839 Hz (m178.to ⟨il, il, il, il, il, il, il, trivial⟩) (.p (fun _ _ h_ => y_sliceLn h_ k rfl rfl U73 fct1 rfl hkl) .nil) fun Az Hz => ?_
   refine d_two 4 6 rfl rfl (by kernel_rfl) rfl rfl (fun K hK => ?_) (fun K hK => ?_)
   ·
    have m180 := m178.nilR 102 33 11
    refine e_appR Hz m180 102 rfl rfl rfl (m180.rd (i := 100) rfl) U73 fct3 rfl rfl (by decide) (by simp; omega) rfl ?_
    intro p181 c181 Az w182 Hz m182
    refine hK _ _ (fun _ => (m182.to ⟨il, il, il, il, il, il, il, trivial⟩)) ?_; clear hK K
    refine so 6 ?_
    refine e_litR Hz m182 103 (mm := 11) rfl (.cons rfl rfl (.cons (.v _) (.cons (.v _) (.cons (.v _) (.cons (.v _) (.cons (m182.rd (i := 10) rfl) (.cons (.v _) (.cons (.v _) (.cons (.v _) (.cons (.v _) (.cons (Rd.nilN _ _ .i64 _) (.cons (.l0 _ _ 2) .nil))))))))))) .nil) U73 fct3 rfl rfl rfl rfl rfl fun g183 Az w184 Hz m184 => ?_
    refine ⟨m184.to ⟨il, il, il, il, il, il, il, trivial⟩, ?_⟩
    have m186 := m184.freezeR 103 rfl
    refine so 7 ?_
    refine e_appR Hz m186 102 rfl rfl rfl (m186.rd (i := 103) rfl) U73 fct3 rfl rfl (by decide) (by simp; omega) rfl fun p185 c185 Az w187 Hz m187 => ?_
    refine ⟨m187.to ⟨il, il, il, il, il, il, il, trivial⟩, ?_⟩
    refine so 11 ?_
    refine e_appR Hz m187 102 rfl rfl rfl (m187.rd (i := 101) rfl) U73 fct3 rfl rfl (by decide) (by simp; omega) rfl fun p188 c188 Az w189 Hz m189 => ?_
    refine ⟨m189.to ⟨il, il, il, il, il, il, il, trivial⟩, ?_⟩
    refine goA hP168 [12, 13] 2 4095 16383 Hz (m189.to ⟨il, il, il, il, il, il, il, trivial⟩) (.nilCheck rfl <| .fa 0 rfl U75 .nil) fun Az Hz => ?_
    refine se 14 ?_
    refine st1 Hz m189 1 fct4 fun w192 m192 _ => ?_
    refine wpAnyE_done (by kernel_rfl) ?_ _
    refine hK18 _ _ ?_
    replace Hz := Hz.oz [0, 4, 5, 7, 8, 9]
    refine zsr fun K19 hK19 => ?_
    refine goCh Hz (.build rfl fct8 fl84mA rfl (by dsimp only [setL, List.set] <;> rfl) .nil) fun Az Hz => ?_
    refine plz (stw Hz m192 4 fct6 fun w196 m196 _ => ?_)
    refine znl (hK19 _ _ ?_)
    refine rtd (retC (fn := Tryz.f31) Hz m196 (i := 4) rfl rfl rfl U84 rfl fct6 ?_)
    have m197 := m196.freezeR 102 rfl
    have hrw : [] ++ List.take k (L.map volD) ++ [[.v (.int .i64 (newV vo bl sz pe to place).vo), .v (.int .i64 (newV vo bl sz pe to place).bl), .v (.int .i64 (newV vo bl sz pe to place).sz), .v (.int .i64 (newV vo bl sz pe to place).pe), .ns .i64 (newV vo bl sz pe to place).place, .v (.int .i64 (newV vo bl sz pe to place).to), .v (.int .i64 (newV vo bl sz pe to place).ne), .v (.bool (newV vo bl sz pe to place).hi), .v (.int .i64 (newV vo bl sz pe to place).fl), .ns .i64 (newV vo bl sz pe to place).pins, .l 2 ((newV vo bl sz pe to place).ws.map wrD)]] ++ List.drop k (L.map volD) = (L.take k ++ [newV vo bl sz pe to place] ++ L.drop k).map volD := by simp [volD, newV]
    simp only [newV] at hrw
    erw [hrw] at m197
    exact ⟨_, _, _, _, L.take k ++ [newV vo bl sz pe to place] ++ L.drop k, _, _, rfl, hM.ins (newV_s hN) k, m197.ren [(1, 1), (2, 102)] (by decide)⟩
   refine e_litR Hz m178 102 (mm := 11) rfl (.cons rfl rfl (.cons (.v _) (.cons (.v _) (.cons (.v _) (.cons (.v _) (.cons (m178.rd (i := 10) rfl) (.cons (.v _) (.cons (.v _) (.cons (.v _) (.cons (.v _) (.cons (Rd.nilN _ _ .i64 _) (.cons (.l0 _ _ 2) .nil))))))))))) .nil) U73 fct3 rfl rfl rfl rfl rfl ?_
   intro g198 Az w199 Hz m199
   refine hK _ _ (fun _ => (m199.to ⟨il, il, il, il, il, il, il, trivial⟩)) ?_; clear hK K
   have m200 := m199.nilR 103 33 11
   refine so 4 ?_
   refine e_appR Hz m200 103 rfl rfl rfl (m200.rd (i := 100) rfl) U73 fct3 rfl rfl (by decide) (by simp; omega) rfl fun p201 c201 Az w202 Hz m202 => ?_
   refine ⟨m202.to ⟨il, il, il, il, il, il, il, trivial⟩, ?_⟩
   have m204 := m202.freezeR 102 rfl
   refine so 7 ?_
   refine e_appR Hz m204 103 rfl rfl rfl (m204.rd (i := 102) rfl) U73 fct3 rfl rfl (by decide) (by simp; omega) rfl fun p203 c203 Az w205 Hz m205 => ?_
   refine ⟨m205.to ⟨il, il, il, il, il, il, il, trivial⟩, ?_⟩
   refine so 11 ?_
   refine e_appR Hz m205 103 rfl rfl rfl (m205.rd (i := 101) rfl) U73 fct3 rfl rfl (by decide) (by simp; omega) rfl fun p206 c206 Az w207 Hz m207 => ?_
   refine ⟨m207.to ⟨il, il, il, il, il, il, il, trivial⟩, ?_⟩
   refine goA hP168 [12, 13] 2 4095 16383 Hz (m207.to ⟨il, il, il, il, il, il, il, trivial⟩) (.nilCheck rfl <| .fa 0 rfl U75 .nil) fun Az Hz => ?_
   refine se 14 ?_
   refine st1 Hz m207 1 fct4 fun w210 m210 _ => ?_
   refine wpAnyE_done (by kernel_rfl) ?_ _
   refine hK18 _ _ ?_
   replace Hz := Hz.oz [0, 4, 5, 7, 8, 9]
   refine zsr fun K20 hK20 => ?_
   refine goCh Hz (.build rfl fct8 fl84mA rfl (by dsimp only [setL, List.set] <;> rfl) .nil) fun Az Hz => ?_
   refine plz (stw Hz m210 4 fct6 fun w214 m214 _ => ?_)
   refine znl (hK20 _ _ ?_)
   refine rtd (retC (fn := Tryz.f31) Hz m214 (i := 4) rfl rfl rfl U84 rfl fct6 ?_)
   have m215 := m214.freezeR 103 rfl
   have hrw : [] ++ List.take k (L.map volD) ++ [[.v (.int .i64 (newV vo bl sz pe to place).vo), .v (.int .i64 (newV vo bl sz pe to place).bl), .v (.int .i64 (newV vo bl sz pe to place).sz), .v (.int .i64 (newV vo bl sz pe to place).pe), .ns .i64 (newV vo bl sz pe to place).place, .v (.int .i64 (newV vo bl sz pe to place).to), .v (.int .i64 (newV vo bl sz pe to place).ne), .v (.bool (newV vo bl sz pe to place).hi), .v (.int .i64 (newV vo bl sz pe to place).fl), .ns .i64 (newV vo bl sz pe to place).pins, .l 2 ((newV vo bl sz pe to place).ws.map wrD)]] ++ List.drop k (L.map volD) = (L.take k ++ [newV vo bl sz pe to place] ++ L.drop k).map volD := by simp [volD, newV]
   simp only [newV] at hrw
   erw [hrw] at m215
   exact ⟨_, _, _, _, L.take k ++ [newV vo bl sz pe to place] ++ L.drop k, _, _, rfl, hM.ins (newV_s hN) k, m215.ren [(1, 1), (2, 103)] (by decide)⟩
  refine wp_region_lit ?_
  refine goCh Hz (.loadBR m49 (i := 23) rfl rfl U81 rfl fct5 (by simp) (by dsimp only [List.drop, List.take] <;> rfl) .nil) fun Az Hz => ?_
  refine plz (ecb Hz Tryz.func32 rfl m49 (rnew_non _ vo bl sz pe to _ _ place _ _ _ _ _ _ ((m49.rd (i := 21) rfl).any) (by omega) hN) fun Az w217 Hz m218 => ?_)
  refine goCh Hz (.move rfl <| .extract rfl rfl <| .extract rfl rfl .nil) fun Az Hz => ?_
  refine plz (e_alloc Hz m218 25 fct2 rfl fun g223 Az w224 Hz m224 _ _ => ?_)
  refine plz (stw Hz m224 25 fct1 fun w225 m225 _ => ?_)
  refine gz hK10 Hz (.assign rfl .nil) fun Az Hz => ?_
  refine wsk fun K21 hK21 => ?_
  replace Hz := Hz.oz [0, 4, 5, 7, 8, 9, 10]
  refine regS Hz (.move rfl <| .neq rfl rfl .nil) fun Az Hz => ?_
  refine bc Hz 42 ?_ ?_
  rotate_left
  · intro hb _; exact absurd hb (by simp)
  clear Hz; intro _ Hz
  refine wct Hz ?_
  refine zsr fun K22 hK22 => ?_
  refine goCh Hz (.move rfl <| .build rfl fct8 fl84mA rfl (by dsimp only [setL, List.set] <;> rfl) .nil) fun Az Hz => ?_
  refine plz (stw Hz m225 20 fct6 fun w235 m235 _ => ?_)
  refine znl (hK22 _ _ ?_)
  refine rtd (retC (fn := Tryz.f31) Hz m235 (i := 20) rfl rfl rfl U84 rfl fct6 ?_)
  exact ⟨_, _, _, _, L, _, _, rfl, hM.up (by omega), m235.only [1, 2]⟩
 intro hb46 Hz; try simp only [QQ, Qax] at hb46
 refine wcf Hz ?_
 refine zss (hK6 _ _ ?_)
 refine wsk fun K23 hK23 => ?_
 replace Hz := Hz.oz [0, 4, 5, 7, 8]
 refine regS Hz (.move rfl <| .lss rfl rfl .nil) fun Az Hz => ?_
 refine bc Hz 77 ?_ ?_
 ·
  intro hb239 Hz; try simp only [QQ, Qax] at hb239
  refine wct Hz ?_
  refine zsr fun K24 hK24 => ?_
  refine goCh Hz (.build rfl fct8 fl84mA rfl (by dsimp only [setL, List.set] <;> rfl) .nil) fun Az Hz => ?_
  refine plz (stw Hz m41 20 fct6 fun w242 m242 _ => ?_)
  refine znl (hK24 _ _ ?_)
  refine rtd (retC (fn := Tryz.f31) Hz m242 (i := 20) rfl rfl rfl U84 rfl fct6 ?_)
  exact ⟨_, _, _, _, L, _, _, rfl, hM.up (by omega), m242.only [1, 2]⟩
 intro hb239 Hz; try simp only [QQ, Qax] at hb239
 revert Hz
 obtain ⟨jn, rfl⟩ : ∃ jn : Nat, j = (jn : Int) := ⟨j.toNat, by omega⟩
 intro Hz
 have hjl : jn < L.length := by omega
 obtain ⟨x, hes⟩ : ∃ x, L[jn]? = some x := ⟨_, List.getElem?_eq_getElem hjl⟩
 refine wcf Hz ?_
 refine zss (hK23 _ _ ?_)
 refine wsk fun K25 hK25 => ?_
 have hC25 : ∀ (a : Act) (w : World), (∃ (y : VolV) (e9 rl rf rn : Int) (B4 B11 B12 c8 d1 d2 d3 : Nat) (p8 p1 p2 p3 : Option Addr), VolS (n + 1) y ∧ Has 97 [(0, .pointer (some ⟨B, 0, none⟩)), (4, .pointer (some ⟨B4, 0, none⟩)), (7, .int .i64 jn), (8, .slice p8 ([] ++ (L.map volD)).length c8), (11, .pointer (some ⟨B11, 0, none⟩)), (12, .pointer (some ⟨B12, 0, none⟩))] a ∧ MemOk X w0 [(1, .box B 75 [.slice p (L.map volD).length c]), (2, .dat (.slice p (L.map volD).length c) (.l 11 (L.map volD))), (4, .box B4 84 [.int .i64 0, .int .i64 0, .int .i64 0, .int .i64 0, .slice none 0 0]), (8, .row (.slice p8 ([] ++ (L.map volD)).length c8) 33 11 ([] ++ (L.map volD))), (11, .box B11 33 [.int .i64 y.vo, .int .i64 y.bl, .int .i64 y.sz, .int .i64 y.pe, .slice p1 y.place.length d1, .int .i64 y.to, .int .i64 y.ne, .bool y.hi, .int .i64 y.fl, .slice p2 y.pins.length d2, .slice p3 (y.ws.map wrD).length d3]), (12, .box B12 84 [.int .i64 e9, .int .i64 rl, .int .i64 rf, .int .i64 rn, .slice none 0 0]), (13, .dat (.slice p1 y.place.length d1) (.ns .i64 y.place)), (14, .dat (.slice p2 y.pins.length d2) (.ns .i64 y.pins)), (15, .dat (.slice p3 (y.ws.map wrD).length d3) (.l 2 (y.ws.map wrD)))] w) → K25 a w := by
   clear Hz m41
   rintro Az w243 ⟨y, e9, rl, rf, rn, B4, B11, B12, c8, d1, d2, d3, p8, p1, p2, p3, hyS, Hz, m243⟩
   refine hK25 _ _ ?_
   refine zsr fun K26 hK26 => ?_
   refine goCh Hz (.move rfl <| .move rfl <| .loadBR m243 (i := 11) rfl rfl U33 rfl fct1 (by simp) (by dsimp only [List.drop, List.take] <;> rfl) .nil) fun Az Hz => ?_
   obtain ⟨gr251, cr251, hp251, _⟩ := m243.openC (i := 8) rfl (Nat.lt_of_le_of_lt (Nat.zero_le jn) (by simpa using hjl)); cases hp251
   refine goCh Hz (.c rfl (fun _ h_ => y_idx h_ rfl rfl U73 fct1 (jn) rfl (by simpa using hjl)) .nil) fun Az Hz => ?_
   refine plz (e_storeRW Hz m243 8 rfl (jn) (by simpa using hjl) rfl rfl rfl rfl rfl fct1 (.cons (.v _) (.cons (.v _) (.cons (.v _) (.cons (.v _) (.cons (m243.rd (i := 13) rfl) (.cons (.v _) (.cons (.v _) (.cons (.v _) (.cons (.v _) (.cons (m243.rd (i := 14) rfl) (.cons (m243.rd (i := 15) rfl) .nil))))))))))) fun w253 m253 => ?_)
   refine znl (hK26 _ _ ?_)
   replace Hz := Hz.oz [0, 4, 8, 12]
   refine zsr fun K27 hK27 => ?_
   refine goCh Hz (.move rfl <| .move rfl <| .nilCheck rfl <| .fa 0 rfl U75 .nil) fun Az Hz => ?_
   refine plz (st1 Hz m253 1 fct4 fun w263 m263 _ => ?_)
   refine znl (hK27 _ _ ?_)
   replace Hz := Hz.oz [4, 12]
   refine zsr fun K28 hK28 => ?_
   refine goCh Hz (.loadBR m263 (i := 12) rfl rfl U84 rfl fct6 (by simp) (by dsimp only [List.drop, List.take] <;> rfl) .nil) fun Az Hz => ?_
   refine plz (stw Hz m263 4 fct6 fun w267 m267 _ => ?_)
   refine znl (hK28 _ _ ?_)
   refine rtd (retC (fn := Tryz.f31) Hz m267 (i := 4) rfl rfl rfl U84 rfl fct6 ?_)
   have m268 := m267.freezeR 8 rfl
   have hrw : ([] ++ (L.map volD)).set jn [.v (.int .i64 y.vo), .v (.int .i64 y.bl), .v (.int .i64 y.sz), .v (.int .i64 y.pe), .ns .i64 y.place, .v (.int .i64 y.to), .v (.int .i64 y.ne), .v (.bool y.hi), .v (.int .i64 y.fl), .ns .i64 y.pins, .l 2 (y.ws.map wrD)] = (L.set jn y).map volD := by rw [List.nil_append, List.map_set]; rfl
   have hln : ([] ++ (L.map volD)).length = ((L.set jn y).map volD).length := by simp
   rw [hrw, hln] at m268
   exact ⟨_, _, _, _, L.set jn y, _, _, rfl, hM.set hyS jn, m268.ren [(1, 1), (2, 8)] (by decide)⟩
 obtain ⟨gr270, cr270, hp270, m270⟩ := m41.openC (i := 24) rfl (Nat.lt_of_le_of_lt (Nat.zero_le (jn)) (by simpa using hjl))
 revert Hz
 cases hp270
 intro Hz
 obtain ⟨vs271, hc271, hR271⟩ := m270.eltC (i := 24) rfl (jn) (r := [.v (.int .i64 x.vo), .v (.int .i64 x.bl), .v (.int .i64 x.sz), .v (.int .i64 x.pe), .ns .i64 x.place, .v (.int .i64 x.to), .v (.int .i64 x.ne), .v (.bool x.hi), .v (.int .i64 x.fl), .ns .i64 x.pins, .l 2 (x.ws.map wrD)]) (by simpa using volD_get hes)
 revert Hz
 rcases hR271 with _ | ⟨hd271_0, _ | ⟨hd271_1, _ | ⟨hd271_2, _ | ⟨hd271_3, _ | ⟨hd271_4, _ | ⟨hd271_5, _ | ⟨hd271_6, _ | ⟨hd271_7, _ | ⟨hd271_8, _ | ⟨hd271_9, _ | ⟨hd271_10, _ | _⟩⟩⟩⟩⟩⟩⟩⟩⟩⟩⟩
 obtain rfl := hd271_0.v_out
 clear hd271_0
 obtain rfl := hd271_1.v_out
 clear hd271_1
 obtain rfl := hd271_2.v_out
 clear hd271_2
 obtain rfl := hd271_3.v_out
 clear hd271_3
 obtain ⟨p272, c272, hv272, hw272⟩ := hd271_4.ns_shape; subst hv272
 intro Hz
 have m272 := m270.dat 25 rfl (hd271_4.cast (fun _ h => h)); clear m270 hd271_4
 revert Hz
 obtain rfl := hd271_5.v_out
 clear hd271_5
 obtain rfl := hd271_6.v_out
 clear hd271_6
 obtain rfl := hd271_7.v_out
 clear hd271_7
 obtain rfl := hd271_8.v_out
 clear hd271_8
 obtain ⟨p273, c273, hv273, hw273⟩ := hd271_9.ns_shape; subst hv273
 intro Hz
 have m273 := m272.dat 26 rfl (hd271_9.cast (fun _ h => (free_add rfl h))); clear m272 hd271_9
 revert Hz
 obtain ⟨p274, c274, hv274, hw274⟩ := hd271_10.l_shape; subst hv274
 intro Hz
 have m274 := m273.dat 27 rfl (hd271_10.cast (fun _ h => (free_add rfl (free_add rfl h)))); clear m273 hd271_10
 have m275 := m274.oz [1, 2, 20, 21, 22, 23, 24, 25, 26, 27]
 refine region_p 5 (B := [(1, _), (2, _), (20, _), (21, _), (22, _), (23, _), (24, _), (25, _), (26, _), (27, _)]) (m275.to ⟨il, il, il, il, il, il, il, il, il, il, trivial⟩) m275 (by kernel_rfl) (fun w276 hP276 m276 => ?_); clear m275
 refine goR hP276 [0, 1, 2, 3, 4] [3, 4] 5 0 31 Hz (m276.to ⟨il, il, il, il, il, il, il, il, il, il, trivial⟩) (.move rfl <| .move rfl <| .p (fun _ _ h_ => y_idx h_ rfl rfl U73 fct1 (jn) rfl (by simpa using hjl)) <| .c (fun _ hW _ h_ => y_loadRC h_ hW (i := 24) rfl (jn) hc271 rfl U33 rfl fct1) <| .loadBR hh (i := 23) rfl rfl U81 rfl fct5 (by simp) (by dsimp only [List.drop, List.take] <;> rfl) .nil) fun Az Hz => ?_
 refine dth 5 9 10 ?_ ?_ ?_
 ·
  refine ecl Hz Tryz.func63 rfl (rDoAny _ x n (hM.2 _ (List.mem_of_getElem? hes)) hn items _ _ _ _ _ _ _ _ _ _ _ _ _ _ _ _ _ _ _ _ (by omega) (fun e he => itok (hii e he).1) (fun e he => (hii e he).2) (m276.into [(1, 25), (2, 26), (3, 27), (4, 22)] (by decide) rfl)) ?_
  rintro e w282 ⟨y, e9, rl, rf, rn, p1282, p2282, p3282, d1282, d2282, d3282, rfl, hyo, hyS, hm282⟩
  have mx282 := m276.back hm282 [(28, 1), (29, 2), (30, 3)] (by decide); clear hm282 m276
  have m282 := mx282.oz [28, 29, 30, 1, 2, 20, 21, 23, 24]
  refine ⟨_, rfl, ?_⟩; intro Az Hz
  refine ⟨fun h => (Bool.false_ne_true (h.symm.trans (by rfl))).elim, ?_⟩
  refine goB hP276 [6, 7, 8] 3 63 511 Hz (.move rfl <| .extract rfl rfl <| .extract rfl rfl .nil) fun Az Hz => ?_
  refine dtw 9 10 ?_ ?_
  ·
   refine e_alloc Hz m282 31 fct2 rfl fun g287 Az w288 Hz m288 _ _ => ?_
   refine ⟨fun h => (Bool.false_ne_true (h.symm.trans (by rfl))).elim, ?_⟩
   refine se 10 ?_
   refine e_alloc Hz m288 32 fct8 rfl fun g289 Az w290 Hz m290 _ _ => ?_
   refine se 11 ?_
   refine stw Hz m290 31 fct1 fun w291 m291 _ => ?_
   refine se 12 ?_
   refine stw Hz m291 32 fct6 fun w292 m292 _ => ?_
   refine wpAnyE_done (by kernel_rfl) ?_ _
   have m293 := m292.closeC 24 rfl
   show K25 _ _
   exact hC25 _ _ ⟨y, _, _, _, _, _, _, _, _, _, _, _, _, _, _, _, hyS, Hz.only [0, 4, 7, 8, 11, 12], m293.ren [(1, 1), (2, 2), (4, 20), (8, 24), (11, 31), (12, 32), (13, 28), (14, 29), (15, 30)] (by decide)⟩
  refine e_alloc Hz m282 31 fct8 rfl fun g294 Az w295 Hz m295 _ _ => ?_
  refine ⟨fun h => (Bool.false_ne_true (h.symm.trans (by rfl))).elim, ?_⟩
  refine se 9 ?_
  refine e_alloc Hz m295 32 fct2 rfl fun g296 Az w297 Hz m297 _ _ => ?_
  refine se 11 ?_
  refine stw Hz m297 32 fct1 fun w298 m298 _ => ?_
  refine se 12 ?_
  refine stw Hz m298 31 fct6 fun w299 m299 _ => ?_
  refine wpAnyE_done (by kernel_rfl) ?_ _
  have m300 := m299.closeC 24 rfl
  show K25 _ _
  exact hC25 _ _ ⟨y, _, _, _, _, _, _, _, _, _, _, _, _, _, _, _, hyS, Hz.only [0, 4, 7, 8, 11, 12], m300.ren [(1, 1), (2, 2), (4, 20), (8, 24), (11, 32), (12, 31), (13, 28), (14, 29), (15, 30)] (by decide)⟩
 ·
  refine e_alloc Hz m276 28 fct2 rfl fun g301 Az w302 Hz m302 _ _ => ?_
  refine ⟨fun _ => (m302.to ⟨il, il, il, il, il, il, il, il, il, il, trivial⟩), ?_⟩
  refine dtw 5 10 ?_ ?_
  ·
   refine ecl Hz Tryz.func63 rfl (rDoAny _ x n (hM.2 _ (List.mem_of_getElem? hes)) hn items _ _ _ _ _ _ _ _ _ _ _ _ _ _ _ _ _ _ _ _ (by omega) (fun e he => itok (hii e he).1) (fun e he => (hii e he).2) (m302.into [(1, 25), (2, 26), (3, 27), (4, 22)] (by decide) rfl)) ?_
   rintro e w303 ⟨y, e9, rl, rf, rn, p1303, p2303, p3303, d1303, d2303, d3303, rfl, hyo, hyS, hm303⟩
   have mx303 := m302.back hm303 [(29, 1), (30, 2), (31, 3)] (by decide); clear hm303 m302
   have m303 := mx303.oz [29, 30, 31, 1, 2, 20, 21, 23, 24, 28]
   refine ⟨_, rfl, ?_⟩; intro Az Hz
   refine ⟨fun h => (Bool.false_ne_true (h.symm.trans (by rfl))).elim, ?_⟩
   refine goB hP276 [6, 7, 8] 3 575 1023 Hz (.move rfl <| .extract rfl rfl <| .extract rfl rfl .nil) fun Az Hz => ?_
   refine se 10 ?_
   refine e_alloc Hz m303 32 fct8 rfl fun g308 Az w309 Hz m309 _ _ => ?_
   refine se 11 ?_
   refine stw Hz m309 28 fct1 fun w310 m310 _ => ?_
   refine se 12 ?_
   refine stw Hz m310 32 fct6 fun w311 m311 _ => ?_
   refine wpAnyE_done (by kernel_rfl) ?_ _
   have m312 := m311.closeC 24 rfl
   show K25 _ _
   exact hC25 _ _ ⟨y, _, _, _, _, _, _, _, _, _, _, _, _, _, _, _, hyS, Hz.only [0, 4, 7, 8, 11, 12], m312.ren [(1, 1), (2, 2), (4, 20), (8, 24), (11, 28), (12, 32), (13, 29), (14, 30), (15, 31)] (by decide)⟩
  refine e_alloc Hz m302 29 fct8 rfl fun g313 Az w314 Hz m314 _ _ => ?_
  refine ⟨fun _ => (m314.to ⟨il, il, il, il, il, il, il, il, il, il, trivial⟩), ?_⟩
  refine se 5 ?_
  refine ecl Hz Tryz.func63 rfl (rDoAny _ x n (hM.2 _ (List.mem_of_getElem? hes)) hn items _ _ _ _ _ _ _ _ _ _ _ _ _ _ _ _ _ _ _ _ (by omega) (fun e he => itok (hii e he).1) (fun e he => (hii e he).2) (m314.into [(1, 25), (2, 26), (3, 27), (4, 22)] (by decide) rfl)) ?_
  rintro e w315 ⟨y, e9, rl, rf, rn, p1315, p2315, p3315, d1315, d2315, d3315, rfl, hyo, hyS, hm315⟩
  have mx315 := m314.back hm315 [(30, 1), (31, 2), (32, 3)] (by decide); clear hm315 m314
  have m315 := mx315.oz [30, 31, 32, 1, 2, 20, 21, 23, 24, 28, 29]
  refine ⟨_, rfl, ?_⟩; intro Az Hz
  refine goB hP276 [6, 7, 8] 3 1599 2047 Hz (.move rfl <| .extract rfl rfl <| .extract rfl rfl .nil) fun Az Hz => ?_
  refine se 11 ?_
  refine stw Hz m315 28 fct1 fun w320 m320 _ => ?_
  refine se 12 ?_
  refine stw Hz m320 29 fct6 fun w321 m321 _ => ?_
  refine wpAnyE_done (by kernel_rfl) ?_ _
  have m322 := m321.closeC 24 rfl
  show K25 _ _
  exact hC25 _ _ ⟨y, _, _, _, _, _, _, _, _, _, _, _, _, _, _, _, hyS, Hz.only [0, 4, 7, 8, 11, 12], m322.ren [(1, 1), (2, 2), (4, 20), (8, 24), (11, 28), (12, 29), (13, 30), (14, 31), (15, 32)] (by decide)⟩
 refine e_alloc Hz m276 28 fct8 rfl fun g323 Az w324 Hz m324 _ _ => ?_
 refine ⟨fun _ => (m324.to ⟨il, il, il, il, il, il, il, il, il, il, trivial⟩), ?_⟩
 refine dtw 5 9 ?_ ?_
 ·
  refine ecl Hz Tryz.func63 rfl (rDoAny _ x n (hM.2 _ (List.mem_of_getElem? hes)) hn items _ _ _ _ _ _ _ _ _ _ _ _ _ _ _ _ _ _ _ _ (by omega) (fun e he => itok (hii e he).1) (fun e he => (hii e he).2) (m324.into [(1, 25), (2, 26), (3, 27), (4, 22)] (by decide) rfl)) ?_
  rintro e w325 ⟨y, e9, rl, rf, rn, p1325, p2325, p3325, d1325, d2325, d3325, rfl, hyo, hyS, hm325⟩
  have mx325 := m324.back hm325 [(29, 1), (30, 2), (31, 3)] (by decide); clear hm325 m324
  have m325 := mx325.oz [29, 30, 31, 1, 2, 20, 21, 23, 24, 28]
  refine ⟨_, rfl, ?_⟩; intro Az Hz
  refine ⟨fun h => (Bool.false_ne_true (h.symm.trans (by rfl))).elim, ?_⟩
  refine goB hP276 [6, 7, 8] 3 1087 1535 Hz (.move rfl <| .extract rfl rfl <| .extract rfl rfl .nil) fun Az Hz => ?_
  refine se 9 ?_
  refine e_alloc Hz m325 32 fct2 rfl fun g330 Az w331 Hz m331 _ _ => ?_
  refine se 11 ?_
  refine stw Hz m331 32 fct1 fun w332 m332 _ => ?_
  refine se 12 ?_
  refine stw Hz m332 28 fct6 fun w333 m333 _ => ?_
  refine wpAnyE_done (by kernel_rfl) ?_ _
  have m334 := m333.closeC 24 rfl
  show K25 _ _
  exact hC25 _ _ ⟨y, _, _, _, _, _, _, _, _, _, _, _, _, _, _, _, hyS, Hz.only [0, 4, 7, 8, 11, 12], m334.ren [(1, 1), (2, 2), (4, 20), (8, 24), (11, 32), (12, 28), (13, 29), (14, 30), (15, 31)] (by decide)⟩
 refine e_alloc Hz m324 29 fct2 rfl fun g335 Az w336 Hz m336 _ _ => ?_
 refine ⟨fun _ => (m336.to ⟨il, il, il, il, il, il, il, il, il, il, trivial⟩), ?_⟩
 refine se 5 ?_
 refine ecl Hz Tryz.func63 rfl (rDoAny _ x n (hM.2 _ (List.mem_of_getElem? hes)) hn items _ _ _ _ _ _ _ _ _ _ _ _ _ _ _ _ _ _ _ _ (by omega) (fun e he => itok (hii e he).1) (fun e he => (hii e he).2) (m336.into [(1, 25), (2, 26), (3, 27), (4, 22)] (by decide) rfl)) ?_
 rintro e w337 ⟨y, e9, rl, rf, rn, p1337, p2337, p3337, d1337, d2337, d3337, rfl, hyo, hyS, hm337⟩
 have mx337 := m336.back hm337 [(30, 1), (31, 2), (32, 3)] (by decide); clear hm337 m336
 have m337 := mx337.oz [30, 31, 32, 1, 2, 20, 21, 23, 24, 28, 29]
 refine ⟨_, rfl, ?_⟩; intro Az Hz
 refine goB hP276 [6, 7, 8] 3 1599 2047 Hz (.move rfl <| .extract rfl rfl <| .extract rfl rfl .nil) fun Az Hz => ?_
 refine se 11 ?_
 refine stw Hz m337 29 fct1 fun w342 m342 _ => ?_
 refine se 12 ?_
 refine stw Hz m342 28 fct6 fun w343 m343 _ => ?_
 refine wpAnyE_done (by kernel_rfl) ?_ _
 have m344 := m343.closeC 24 rfl
 show K25 _ _
 exact hC25 _ _ ⟨y, _, _, _, _, _, _, _, _, _, _, _, _, _, _, _, hyS, Hz.only [0, 4, 7, 8, 11, 12], m344.ren [(1, 1), (2, 2), (4, 20), (8, 24), (11, 29), (12, 28), (13, 30), (14, 31), (15, 32)] (by decide)⟩
end
section
theorem fl75sV : flatS Tryz.prog 75 [.slice none 0 0] = true := by kernel_rfl
set_option maxRecDepth 100000
set_option maxHeartbeats 4000000
theorem scmd_no (vo bl sz pe to ne fl : Int) (hi : Bool) (pp pn pw : Option Addr) (np cp nn9 cn9 nw cw : Nat) (wh xa xb xc : Int) (w0 : World) (hvo : 0 ≤ vo ∧ vo ≤ 255) (hw9 : 0 ≤ wh ∧ wh ≤ 255) (ha9 : 0 ≤ xa ∧ xa ≤ 255) (hb9 : 0 ≤ xb ∧ xb ≤ 255) (hc9 : 0 ≤ xc ∧ xc ≤ 255) :
   Calls Tryz.prog 30 #[.agg #[.int .i64 vo, .int .i64 bl, .int .i64 sz, .int .i64 pe, .slice pp np cp, .int .i64 to, .int .i64 ne, .bool hi, .int .i64 fl, .slice pn nn9 cn9, .slice pw nw cw], .bool false, .int .u8 wh, .int .u8 xa, .int .u8 xb, .int .u8 xc] w0 fun e w' => ∃ (vo2 bl2 sz2 pe2 to2 : Int) (place : List Int) (pp : Option Addr) (cp : Nat), e = .returned (.agg #[.int .i64 1, .int .i64 vo2, .int .i64 bl2, .int .i64 sz2, .int .i64 pe2, .slice pp place.length cp, .int .i64 to2, .int .i64 0, .int .i64 0, .slice none 0 0]) ∧ place.length ≤ 9 ∧ Rd (New w0) w' (.slice pp place.length cp) (.ns .i64 place) ∧ Below w0.heap.size w0 w' := by
 refine ent6 Tryz.func30 rfl Tryz.ntmps30 fun Az Hz => ?_
 have m0 := MemOk.start (fun _ => False) w0
 obtain ⟨tq, htq, htq0, htq3⟩ : ∃ x : Int, (xc / 4).tmod 3 = x ∧ 0 ≤ x ∧ x ≤ 2 := ⟨_, rfl, by rw [Int.tmod_eq_emod_of_nonneg (by omega)]; omega, by rw [Int.tmod_eq_emod_of_nonneg (by omega)]; omega⟩
 refine zsr fun K0 hK0 => ?_
 refine plz (e_box Hz m0 20 (cs := [_, _, _, _, _, _, _, _, _, _, _]) rfl rfl rfl fun g1 Az w2 Hz m2 _ _ => ?_)
 refine plz (e_alloc Hz m2 21 fct7 rfl fun g3 Az w4 Hz m4 _ _ => ?_)
 refine znl (hK0 _ _ ?_)
 refine wsk fun K1 hK1 => ?_
 refine regS Hz (.move rfl <| .not rfl .nil) fun Az Hz => ?_
 refine wct Hz ?_
 refine regS Hz (.assign rfl .nil) fun Az Hz => ?_
 refine wsk fun K2 hK2 => ?_
 refine regS Hz (.move rfl <| .rem rfl rfl (by decide) rfl <| .eql rfl rfl .nil) fun Az Hz => ?_
 refine bc Hz 19 ?_ ?_
 ·
  intro hb11 Hz; try simp only [QQ, Qax] at hb11
  refine wct Hz ?_
  replace Hz := Hz.oz [2, 3, 4, 5, 6, 12, 13]
  refine wp_region_lit ?_
  refine gz hK2 Hz (.move rfl <| .quo rfl rfl (by decide) (r := xc / 4) (by rw [Int.tdiv_eq_ediv_of_nonneg (by omega)]; exact IntWalk.u8_in _ (by omega)) <| .rem rfl rfl (by decide) (r := tq) htq <| .conv rfl U5 U3 (r := tq) (IntWalk.i64_in _ (by omega)) <| .add rfl rfl (IntWalk.i64_in _ (by omega)) <| .assign rfl <| .nil) fun Az Hz => ?_
  refine zsr fun K3 hK3 => ?_
  refine goCh Hz (.fa 0 rfl U33 <| .lb m4 20 U3 rfl rfl rfl <| .conv rfl U3 U5 (r := vo) (IntWalk.u8_in _ (by omega)) <| .move rfl <| .move rfl <| .move rfl <| .move rfl .nil) fun Az Hz => ?_
  refine plz (ecl Hz Tryz.func33 rfl (create_any vo xa xb xc _ _ hvo ha9 hb9 hc9) ?_)
  rintro e w33 ⟨bl2, sz2, pe2, place, p33, c33, rfl, -, -, -, -, -, -, -, hpl9, hd33, hb33⟩
  have m34 := m4.callF 22 rfl hb33 hd33
  refine ⟨_, rfl, ?_⟩; intro Az Hz
  refine plz (stw Hz m34 21 fct5 fun w36 m36 _ => ?_)
  refine znl (hK3 _ _ ?_)
  refine rtd (retC (fn := Tryz.f30) Hz m36 (i := 21) rfl rfl rfl U81 rfl fct5 ?_)
  exact ⟨_, _, _, _, _, place, _, _, rfl, hpl9, m36.outF (i := 22) rfl, m36.below⟩
 intro hb11 Hz; try simp only [QQ, Qax] at hb11
 refine wcf Hz ?_
 refine zss (hK2 _ _ ?_)
 replace Hz := Hz.oz [2, 3, 4, 5, 6, 12, 13]
 refine zsr fun K4 hK4 => ?_
 refine goCh Hz (.fa 0 rfl U33 <| .lb m4 20 U3 rfl rfl rfl <| .conv rfl U3 U5 (r := vo) (IntWalk.u8_in _ (by omega)) <| .move rfl <| .move rfl <| .move rfl <| .move rfl .nil) fun Az Hz => ?_
 refine plz (ecl Hz Tryz.func33 rfl (create_any vo xa xb xc _ _ hvo ha9 hb9 hc9) ?_)
 rintro e w52 ⟨bl2, sz2, pe2, place, p52, c52, rfl, -, -, -, -, -, -, -, hpl9, hd52, hb52⟩
 have m53 := m4.callF 22 rfl hb52 hd52
 refine ⟨_, rfl, ?_⟩; intro Az Hz
 refine plz (stw Hz m53 21 fct5 fun w55 m55 _ => ?_)
 refine znl (hK4 _ _ ?_)
 refine rtd (retC (fn := Tryz.f30) Hz m55 (i := 21) rfl rfl rfl U81 rfl fct5 ?_)
 exact ⟨_, _, _, _, _, place, _, _, rfl, hpl9, m55.outF (i := 22) rfl, m55.below⟩
theorem scmd_q (n : Nat) (x : VolV) (there : Bool) (p1 p2 p3 : Option Addr) (d1 d2 d3 : Nat) (wh xa xb xc : Int) (w0 : World) (hx : there = true → VolS n x) (hx0 : there = false → x = volZ) (hn : n ≤ 800000) (hw9 : 0 ≤ wh ∧ wh ≤ 255) (ha9 : 0 ≤ xa ∧ xa ≤ 255) (hb9 : 0 ≤ xb ∧ xb ≤ 255) (hc9 : 0 ≤ xc ∧ xc ≤ 255) :
   Calls Tryz.prog 30 #[.agg #[.int .i64 x.vo, .int .i64 x.bl, .int .i64 x.sz, .int .i64 x.pe, .slice p1 x.place.length d1, .int .i64 x.to, .int .i64 x.ne, .bool x.hi, .int .i64 x.fl, .slice p2 x.pins.length d2, .slice p3 (x.ws.map wrD).length d3], .bool there, .int .u8 wh, .int .u8 xa, .int .u8 xb, .int .u8 xc] w0 fun e w' => ∃ (kd vo2 bl2 sz2 pe2 to2 at0 ix : Int) (place : List Int) (it : List (Int × List Int)) (pp : Option Addr) (cp : Nat) (pi : Option Addr) (ci : Nat), e = .returned (.agg #[.int .i64 kd, .int .i64 vo2, .int .i64 bl2, .int .i64 sz2, .int .i64 pe2, .slice pp place.length cp, .int .i64 to2, .int .i64 at0, .int .i64 ix, .slice pi it.length ci]) ∧ place.length ≤ 9 ∧ it.length ≤ 8 ∧ ItsB it ∧ Rd (New w0) w' (.slice pp place.length cp) (.ns .i64 place) ∧ Rd (New w0) w' (.slice pi it.length ci) (.l 2 (it.map itD)) ∧ Below w0.heap.size w0 w' := by
 cases there
 · obtain rfl := hx0 rfl
   refine (scmd_no 0 0 0 0 0 0 0 false p1 p2 p3 0 d1 0 d2 0 d3 wh xa xb xc w0 (by omega) hw9 ha9 hb9 hc9).mono ?_
   rintro e w' ⟨vo2, bl2, sz2, pe2, to2, place, pp, cp, rfl, hp, hd, hb⟩
   exact ⟨1, vo2, bl2, sz2, pe2, to2, 0, 0, place, [], pp, cp, none, 0, rfl, hp, by simp, (fun e h => by cases h), hd, Rd.l0 none 0 2, hb⟩
 obtain ⟨h1, h2, h3, h4, -⟩ := hx rfl
 obtain ⟨vo, bl, sz, pe, place0, to, ne, hi, fl, pins, ws⟩ := x
 simp only at *
 obtain ⟨⟨a1, a2, a3, a4, a5, a6, a7, a8, a9, a10, a11⟩, b1, b2, b3⟩ := h1
 obtain ⟨z, rfl⟩ : ∃ z : Nat, sz = (z : Int) := ⟨sz.toNat, by omega⟩
 refine (scmd_any vo bl z pe to ne fl hi p1 p2 p3 place0.length d1 pins.length d2 (ws.map wrD).length d3 wh xa xb xc w0 (by omega) (by rw [List.length_map]; omega) (by omega) hw9 ha9 hb9 hc9).mono ?_
 rintro e w' ⟨kd, bl2, sz2, pe2, to2, at0, ix, vo2, it, pi, ci, dd, rfl, hkd, hit, hib, hd, hb⟩
 exact ⟨kd, vo2, bl2, sz2, pe2, to2, at0, ix, [], it, none, 0, pi, ci, rfl, by simp, hit, hib, Rd.nilN _ _ .i64 none, hd, hb⟩
theorem svol_any (l : List Int) (pl : Option Addr) (cl : Nat) (w0 : World) (h0 : Rd (fun _ => True) w0 (.slice pl l.length cl) (.ns .u8 l)) (hl : l.length ≤ 100000) (hlb : ∀ j, j < l.length → 0 ≤ l.getD j 0 ∧ l.getD j 0 ≤ 255) :
   Calls Tryz.prog 10 #[.slice pl l.length cl] w0 fun e w' => ∃ (x : VolV) (p1 p2 p3 : Option Addr) (d1 d2 d3 : Nat), e = .returned (.agg #[.int .i64 x.vo, .int .i64 x.bl, .int .i64 x.sz, .int .i64 x.pe, .slice p1 x.place.length d1, .int .i64 x.to, .int .i64 x.ne, .bool x.hi, .int .i64 x.fl, .slice p2 x.pins.length d2, .slice p3 (x.ws.map wrD).length d3]) ∧ VolS l.length x ∧ Rd (New w0) w' (.slice p1 x.place.length d1) (.ns .i64 x.place) ∧ Rd (New w0) w' (.slice p2 x.pins.length d2) (.ns .i64 x.pins) ∧ Rd (New w0) w' (.slice p3 (x.ws.map wrD).length d3) (.l 2 (x.ws.map wrD)) ∧ Below w0.heap.size w0 w' := by
 refine ent1 Tryz.func10 rfl Tryz.ntmps10 fun Az Hz => ?_
 have m0 := MemOk.start (fun _ => False) w0
 refine zsr fun K0 hK0 => ?_
 refine plz (e_alloc Hz m0 20 fct2 rfl fun g1 Az w2 Hz m2 _ _ => ?_)
 refine znl (hK0 _ _ ?_)
 refine zsr fun K1 hK1 => ?_
 refine goCh Hz (.build rfl fct45 fl75sV rfl (by dsimp only [setL, List.set] <;> rfl) .nil) fun Az Hz => ?_
 refine plz (e_box Hz m2 21 (cs := [_]) rfl rfl rfl fun g5 Az w6 Hz m6 _ _ => ?_)
 refine gz hK1 Hz (.assign rfl .nil) fun Az Hz => ?_
 refine wsk fun K2 hK2 => ?_
 refine regS Hz (.assign rfl .nil) fun Az Hz => ?_
 refine wp_block ?_
 refine wp_loop_ghost (fun g a w => ∃ (i k B2 B c : Nat) (L : List VolV) (p : Option Addr), i ≤ l.length ∧ k ≤ i ∧ g = l.length - i ∧ MacS k L ∧ Has 72 [(0, .slice pl l.length cl), (2, .pointer (some ⟨B2, 0, none⟩)), (3, .pointer (some ⟨B, 0, none⟩)), (4, .int .i64 i)] a ∧ MemOk (cn w0) w0 [(1, .box B 75 [.slice p (L.map volD).length c]), (2, .dat (.slice p (L.map volD).length c) (.l 11 (L.map volD))), (3, .box B2 33 [.int .i64 0, .int .i64 0, .int .i64 0, .int .i64 0, .slice none 0 0, .int .i64 0, .int .i64 0, .bool false, .int .i64 0, .slice none 0 0, .slice none 0 0])] w) (l.length) ?_ ?_
 · have mz := m6.dat 2 rfl (Rd.l0 none 0 11)
   exact ⟨0, 0, _, _, _, [], _, Nat.zero_le _, Nat.zero_le _, rfl, ⟨Nat.zero_le _, fun x h => by cases h⟩, Hz.only [0, 2, 3, 4], mz.ren [(1, 21), (2, 2), (3, 20)] (by decide)⟩
 clear Hz m6
 rintro g Az w9 ⟨i, k, B2, B, c, L, p, hil, hki, hg, hM, Hz, m9⟩
 refine wsk fun K3 hK3 => ?_
 refine regS Hz (.move rfl <| .inc (i + 3) <| .move rfl <| .len rfl U22 <| .lss rfl rfl .nil) fun Az Hz => ?_
 refine bc Hz 17 ?_ ?_
 ·
  intro hb15 Hz; try simp only [QQ, Qax] at hb15
  have hi9 : i + 3 < l.length := by omega
  refine wct Hz ?_
  refine zss (hK3 _ _ ?_)
  refine wsk fun K4 hK4 => ?_
  refine wp_block ?_
  refine zsr fun K5 hK5 => ?_
  refine goCh Hz (.move rfl .nil) fun Az Hz => ?_
  refine plz (ecl Hz Tryz.func28 rfl (rmVol _ _ L _ _ _ _ (by have := hM.1; omega) (m9.into [(1, 1), (2, 2)] (by decide) rfl)) ?_)
  rintro e w18 ⟨x, th, p118, p218, p318, d118, d218, d318, rfl, hx1, hx0, hm18⟩
  have mx18 := m9.back hm18 [(1, 1), (2, 2), (100, 3), (101, 4), (102, 5)] (by decide); clear hm18 m9
  have m18 := mx18.oz [1, 2, 100, 101, 102, 3]
  refine ⟨_, rfl, ?_⟩; intro Az Hz
  refine goCh Hz (.move rfl <| .extract rfl rfl <| .extract rfl rfl .nil) fun Az Hz => ?_
  refine plz (e_alloc Hz m18 103 fct2 rfl fun g23 Az w24 Hz m24 _ _ => ?_)
  refine plz (stw Hz m24 103 fct1 fun w25 m25 _ => ?_)
  refine gz hK5 Hz (.assign rfl .nil) fun Az Hz => ?_
  refine wsk fun K6 hK6 => ?_
  replace Hz := Hz.oz [0, 2, 3, 4, 5, 6]
  obtain ⟨gx29, ox29, hp29, hl29, hrg29⟩ := h0.extN (i) (by omega)
  revert Hz
  cases hp29
  intro Hz
  obtain ⟨gx31, ox31, hp31, hl31, hrg31⟩ := h0.extN (i + 1) (by omega)
  revert Hz
  cases hp31
  intro Hz
  obtain ⟨gx33, ox33, hp33, hl33, hrg33⟩ := h0.extN (i + 2) (by omega)
  revert Hz
  cases hp33
  intro Hz
  obtain ⟨gx35, ox35, hp35, hl35, hrg35⟩ := h0.extN (i + 3) (by omega)
  revert Hz
  cases hp35
  intro Hz
  have m36 := m25.oz [1, 2, 3, 100, 101, 102, 103]
  refine region_p 21 (B := [(1, _), (2, _), (3, _), (100, _), (101, _), (102, _), (103, _)]) (m36.to ⟨il, il, il, il, il, il, il, trivial⟩) m36 (by kernel_rfl) (fun w37 hP37 m37 => ?_); clear m36
  refine goR hP37 [0, 1, 2, 3, 4, 5, 6, 7, 8, 9, 10, 11, 12, 13, 14, 15, 16, 17, 18, 19, 20] [0, 5, 10, 15, 20] 21 0 2097151 Hz (m37.to ⟨il, il, il, il, il, il, il, trivial⟩) (.loadBR hh (i := 103) rfl rfl U33 rfl fct1 (by simp) (by dsimp only [List.drop, List.take] <;> rfl) <| .move rfl <| .move rfl <| .move rfl <| .p (fun _ _ h_ => y_idx h_ rfl rfl U22 fct34 (i) rfl (by omega)) <| .loadAt1 (fun _ h_ => (hrg29 h_ rfl)) (q := 0) rfl rfl rfl U5 rfl <| .move rfl <| .move rfl <| .add rfl rfl (r := ((i + 1 : Nat) : Int)) (by rw [IntWalk.i64_in _ (by omega)]; omega) <| .p (fun _ _ h_ => y_idx h_ rfl rfl U22 fct34 (i + 1) rfl (by omega)) <| .loadAt1 (fun _ h_ => (hrg31 h_ rfl)) (q := 0) rfl rfl rfl U5 rfl <| .move rfl <| .move rfl <| .add rfl rfl (r := ((i + 2 : Nat) : Int)) (by rw [IntWalk.i64_in _ (by omega)]; omega) <| .p (fun _ _ h_ => y_idx h_ rfl rfl U22 fct34 (i + 2) rfl (by omega)) <| .loadAt1 (fun _ h_ => (hrg33 h_ rfl)) (q := 0) rfl rfl rfl U5 rfl <| .move rfl <| .move rfl <| .add rfl rfl (r := ((i + 3 : Nat) : Int)) (by rw [IntWalk.i64_in _ (by omega)]; omega) <| .p (fun _ _ h_ => y_idx h_ rfl rfl U22 fct34 (i + 3) rfl (by omega)) <| .loadAt1 (fun _ h_ => (hrg35 h_ rfl)) (q := 0) rfl rfl rfl U5 rfl .nil) fun Az Hz => ?_
  refine se 21 ?_
  refine ecl Hz Tryz.func30 rfl (scmd_q k x th _ _ _ _ _ _ _ _ _ _ _ (fun h => hM.2 _ (hx1 h)) hx0 (by omega) (hlb _ (by omega)) (hlb _ (by omega)) (hlb _ (by omega)) (hlb _ (by omega))) ?_
  rintro e w59 ⟨kd, vo2, bl2, sz2, pe2, to2, at0, ix, place, it, pp59, cp59, pi59, ci59, rfl, hpl9, hit8, hitb, hd59, he59, hb59⟩
  have m60 := m37.callF2 104 105 rfl rfl hb59 hd59 he59
  refine ⟨_, rfl, ?_⟩; intro Az Hz
  refine se 22 ?_
  refine ecl Hz Tryz.func29 rfl (rputCmd _ _ _ _ _ _ _ _ place it _ _ _ _ _ _ ((m60.rd (i := 104) rfl).any) ((m60.rd (i := 105) rfl).any) (by omega) (by omega) (fun e he => (hitb e he).2)) ?_
  rintro e w62 ⟨bs, p62, c62, e9, rfl, hbs, hbb, hd62, hb62⟩
  have m63 := m60.callF 106 rfl hb62 hd62
  refine ⟨_, rfl, ?_⟩; intro Az Hz
  refine goB hP37 [23, 24, 25, 26, 27] 5 8388607 268435455 Hz (.move rfl <| .extract rfl rfl <| .extract rfl rfl <| .assign rfl <| .assign rfl .nil) fun Az Hz => ?_
  refine wpAnyE_done (by kernel_rfl) ?_ _
  refine hK6 _ _ ?_
  replace Hz := Hz.oz [0, 2, 3, 4, 33, 7]
  refine wp_region_lit ?_
  refine goCh Hz (.move rfl <| .move rfl .nil) fun Az Hz => ?_
  refine plz (ecl Hz Tryz.func31 rfl (rmApply _ _ k L _ _ bs _ _ _ hM (by omega) (by omega) hbb (m63.into [(1, 1), (2, 2), (3, 106)] (by decide) rfl)) ?_)
  rintro e w73 ⟨e1, rl1, rf1, rn1, L2, p73, c73, rfl, hM2, hm73⟩
  have mx73 := m63.back hm73 [(1, 1), (2, 2)] (by decide); clear hm73 m63
  have m73 := mx73.oz [1, 2, 3, 100, 101, 102, 103, 104, 105]
  refine ⟨_, rfl, ?_⟩; intro Az Hz
  refine znl (hK4 _ _ ?_)
  refine wp_region_lit ?_
  refine goCh Hz (.move rfl <| .inc (i + 4) <| .assign rfl .nil) fun Az Hz => ?_
  refine wpList_nil ?_
  show ∃ n', n' < _ ∧ _
  exact ⟨l.length - (i + 4), by omega, i + 4, k + 1, _, _, _, L2, _, by omega, by omega, rfl, hM2, Hz.only [0, 2, 3, 4], m73.ren [(1, 1), (2, 2), (3, 3)] (by decide)⟩
 intro hb15 Hz; try simp only [QQ, Qax] at hb15
 refine wcf Hz ?_
 refine wp_exit ?_
 refine hK2 _ _ ?_
 refine wsk fun K7 hK7 => ?_
 refine regS Hz (.move rfl <| .nilCheck rfl <| .fa 0 rfl U75 <| .lb m9 1 U73 rfl rfl rfl <| .len rfl U73 <| .eql rfl rfl .nil) fun Az Hz => ?_
 refine bc Hz 59 ?_ ?_
 ·
  intro hb84 Hz; try simp only [QQ, Qax] at hb84
  refine wct Hz ?_
  replace Hz := Hz.oz [0, 2, 3, 4]
  refine zsr fun K8 hK8 => ?_
  refine plz (ecl Hz Tryz.func33 rfl (create_any 0 3 1 1 0 _ (by omega) (by omega) (by omega) (by omega)) ?_)
  rintro e w86 ⟨bl2, sz2, pe2, place, p86, c86, rfl, hbl1, hbl9, hsz1, hsz3, hpe1, hpeb, hplc, hpl9, hd86, hb86⟩
  have m87 := m9.callF 100 rfl hb86 hd86
  refine ⟨_, rfl, ?_⟩; intro Az Hz
  have hN : NewOk (Int.tmod 0 3) bl2 sz2 pe2 0 place := ⟨by decide, by decide, by omega, by omega, by omega, by omega, by omega, by omega, hplc, by omega, by omega⟩
  refine plz (ecl Hz Tryz.func32 rfl (rnew_yes _ _ bl2 sz2 pe2 0 _ _ place _ _ _ _ _ _ ((m87.rd (i := 100) rfl).any) (by omega) hN) ?_)
  rintro e w89 ⟨p89, c89, rfl, hd89, hb89⟩
  have m90 := m87.callF 101 rfl hb89 hd89
  refine ⟨_, rfl, ?_⟩; intro Az Hz
  refine goCh Hz (.move rfl <| .extract rfl rfl <| .extract rfl rfl .nil) fun Az Hz => ?_
  refine plz (e_alloc Hz m90 102 fct2 rfl fun g95 Az w96 Hz m96 _ _ => ?_)
  refine plz (stw Hz m96 102 fct1 fun w97 m97 _ => ?_)
  refine gz hK8 Hz (.assign rfl .nil) fun Az Hz => ?_
  replace Hz := Hz.oz [0, 2, 3, 4, 9]
  refine zsr fun K9 hK9 => ?_
  refine goCh Hz (.loadBR m97 (i := 102) rfl rfl U33 rfl fct1 (by simp) (by dsimp only [List.drop, List.take] <;> rfl) .nil) fun Az Hz => ?_
  refine plz (stw Hz m97 3 fct1 fun w102 m102 _ => ?_)
  refine znl (hK9 _ _ ?_)
  refine rtd (retC (fn := Tryz.f10) Hz m102 (i := 3) rfl rfl rfl U33 rfl fct1 ?_)
  exact ⟨newV (Int.tmod 0 3) bl2 sz2 pe2 0 place, _, _, _, _, _, _, rfl, newV_s hN, m102.outF (i := 101) rfl, Rd.nilN _ _ .i64 none, Rd.l0 none 0 2, m102.below⟩
 intro hb84 Hz; try simp only [QQ, Qax] at hb84
 have hL0 : 0 < L.length := by simp at hb84; exact List.length_pos_iff.2 hb84
 obtain ⟨x, hes⟩ : ∃ x, L[0]? = some x := ⟨_, List.getElem?_eq_getElem hL0⟩
 refine wcf Hz ?_
 refine zss (hK7 _ _ ?_)
 replace Hz := Hz.oz [0, 2, 3, 4]
 refine zsr fun K10 hK10 => ?_
 refine goCh Hz (.move rfl <| .nilCheck rfl <| .fa 0 rfl U75 <| .lb m9 1 U73 rfl rfl rfl .nil) fun Az Hz => ?_
 obtain ⟨b113, o113, vs113, hp113, hR113, ho113, m113⟩ := m9.openR (i := 2) rfl (0) (r := [.v (.int .i64 x.vo), .v (.int .i64 x.bl), .v (.int .i64 x.sz), .v (.int .i64 x.pe), .ns .i64 x.place, .v (.int .i64 x.to), .v (.int .i64 x.ne), .v (.bool x.hi), .v (.int .i64 x.fl), .ns .i64 x.pins, .l 2 (x.ws.map wrD)]) (volD_get hes) 100 rfl
 revert Hz
 cases hp113; clear m9 ho113
 rcases hR113 with _ | ⟨hd113_0, _ | ⟨hd113_1, _ | ⟨hd113_2, _ | ⟨hd113_3, _ | ⟨hd113_4, _ | ⟨hd113_5, _ | ⟨hd113_6, _ | ⟨hd113_7, _ | ⟨hd113_8, _ | ⟨hd113_9, _ | ⟨hd113_10, _ | _⟩⟩⟩⟩⟩⟩⟩⟩⟩⟩⟩
 obtain rfl := hd113_0.v_out
 clear hd113_0
 obtain rfl := hd113_1.v_out
 clear hd113_1
 obtain rfl := hd113_2.v_out
 clear hd113_2
 obtain rfl := hd113_3.v_out
 clear hd113_3
 obtain ⟨p114, c114, hv114, hc114⟩ := hd113_4.ns_shape; subst hv114
 intro Hz
 have m114 := m113.dat 101 rfl (hd113_4.cast (fun _ h => (free_add rfl h))); clear m113 hd113_4
 revert Hz
 obtain rfl := hd113_5.v_out
 clear hd113_5
 obtain rfl := hd113_6.v_out
 clear hd113_6
 obtain rfl := hd113_7.v_out
 clear hd113_7
 obtain rfl := hd113_8.v_out
 clear hd113_8
 obtain ⟨p115, c115, hv115, hc115⟩ := hd113_9.ns_shape; subst hv115
 intro Hz
 have m115 := m114.dat 102 rfl (hd113_9.cast (fun _ h => (free_add rfl (free_add rfl h)))); clear m114 hd113_9
 revert Hz
 obtain ⟨p116, c116, hv116, hc116⟩ := hd113_10.l_shape; subst hv116
 intro Hz
 have m116 := m115.dat 103 rfl (hd113_10.cast (fun _ h => (free_add rfl (free_add rfl (free_add rfl h))))); clear m115 hd113_10
 refine goCh Hz (.c rfl (fun _ h_ => y_idx h_ rfl rfl U73 fct1 (0) rfl (by simpa using hL0)) <| .loadCR m116 (i := 100) rfl rfl U33 rfl fct1 .nil) fun Az Hz => ?_
 refine plz (stw Hz m116 3 fct1 fun w119 m119 _ => ?_)
 refine znl (hK10 _ _ ?_)
 refine rtd (retC (fn := Tryz.f10) Hz m119 (i := 3) rfl rfl rfl U33 rfl fct1 ?_)
 exact ⟨x, _, _, _, _, _, _, rfl, (hM.2 _ (List.mem_of_getElem? hes)).up (by omega), m119.outF (i := 101) rfl, m119.outF (i := 102) rfl, m119.outF (i := 103) rfl, m119.below⟩
end
section
def WrsB (ws : List (Int × List (Int × List Int))) : Prop := ∀ e ∈ ws, e.2.length ≤ 8 ∧ ItsB e.2
theorem WrsB.ok {ws : List (Int × List (Int × List Int))} (h : WrsB ws) : WrsOk ws := fun e he => ⟨Nat.le_trans (h e he).1 (by decide), (h e he).2.ok⟩
set_option maxRecDepth 100000
set_option maxHeartbeats 4000000
end
section
set_option maxRecDepth 100000
set_option maxHeartbeats 4000000
end
section
def pinT (fl n : Int) (z : Int) : Int := fl + z % (n - fl + 1)
abbrev stZ (bl sz : Int) : List (List Int) := List.replicate bl.toNat (List.replicate sz.toNat 0)
abbrev stL (bl sz : Int) (ws : List PWr) (t : Nat) : List (List Int) := (ws.take t).foldl stW (stZ bl sz)
theorem stStep_len (L : List (List Int)) (x : PI) : (stStep L x).length = L.length := by unfold stStep; split <;> simp
theorem stSteps_len (l : List PI) : ∀ L : List (List Int), (l.foldl stStep L).length = L.length := by
 induction l with
 | nil => intro L; rfl
 | cons x l ih => intro L; rw [List.foldl_cons, ih, stStep_len]
theorem stW_len (L : List (List Int)) (x : PWr) : (stW L x).length = L.length := stSteps_len _ _
def wantF (i : Nat) (d : List Int) (x : PI) : List Int := if x.1 = (i : Int) then x.2 else d
set_option maxRecDepth 100000
set_option maxHeartbeats 4000000
end
section
theorem fl90rpu : flatS Tryz.prog 90 [.int .i64 0, .int .i64 0, .int .i64 0, .int .i64 0, .int .i64 0, .int .i64 0, .int .i64 0, .slice none 0 0] = true := by kernel_rfl
theorem fl109rpu : flatS Tryz.prog 109 [.int .i64 0, .slice none 0 0] = true := by kernel_rfl
theorem fl111rpu : flatS Tryz.prog 111 [.int .i64 0, .slice none 0 0] = true := by kernel_rfl
theorem fl90pQ : flatS Tryz.prog 90 [.int .i64 0, .int .i64 0, .int .i64 0, .int .i64 0, .int .i64 0, .int .i64 0, .int .i64 0, .slice none 0 0] = true := by kernel_rfl
set_option maxRecDepth 100000
set_option maxHeartbeats 4000000
theorem rlen_m (vo bl sz pe to ne fl : Int) (hi : Bool) (pp pn pw : Option Addr) (np cp nn9 cn9 : Nat) (ws : List PWr) (cw : Nat) (w0 : World) :
   Calls Tryz.prog 13 #[.agg #[.int .i64 vo, .int .i64 bl, .int .i64 sz, .int .i64 pe, .slice pp np cp, .int .i64 to, .int .i64 ne, .bool hi, .int .i64 fl, .slice pn nn9 cn9, .slice pw (ws.map wrD).length cw]] w0 fun e w' => e = .returned (.int .i64 (ws.length : Int)) ∧ Below w0.heap.size w0 w' := by
 have h := rlen_any vo bl sz pe to ne fl hi pp pn pw np cp nn9 cn9 (ws.map wrD).length cw w0
 rw [List.length_map] at h
 rw [List.length_map]
 exact h
theorem rcount_yes (vo bl sz pe to ne fl : Int) (hi : Bool) (pp pn pw : Option Addr) (cp : Nat) (place : List Int) (nn9 cn9 nw cw : Nat) (ch fi cnt : Int) (w0 : World) (hch : 0 ≤ ch ∧ ch < place.length) (hpe : 1 ≤ pe) (hfi : ch * pe = fi) (hfb : 0 ≤ fi ∧ fi ≤ 1000000) (hblb : 0 ≤ bl ∧ bl ≤ 1000000) (hcnt : min pe (bl - fi) = cnt) :
   Calls Tryz.prog 47 #[.agg #[.int .i64 vo, .int .i64 bl, .int .i64 sz, .int .i64 pe, .slice pp place.length cp, .int .i64 to, .int .i64 ne, .bool hi, .int .i64 fl, .slice pn nn9 cn9, .slice pw nw cw], .int .i64 ch] w0 fun e w' => e = .returned (.int .i64 cnt) ∧ Below w0.heap.size w0 w' := by
 refine ent2 Tryz.func47 rfl Tryz.ntmps47 fun Az Hz => ?_
 have m0 := MemOk.start (fun _ => False) w0
 refine zsr fun K0 hK0 => ?_
 refine plz (e_box Hz m0 20 (cs := [_, _, _, _, _, _, _, _, _, _, _]) rfl rfl rfl fun g1 Az w2 Hz m2 _ _ => ?_)
 refine gz hK0 Hz (.assign rfl .nil) fun Az Hz => ?_
 refine wsk fun K1 hK1 => ?_
 refine zsr fun K2 hK2 => ?_
 refine goCh Hz (.move rfl <| .lss rfl rfl <| .move rfl .nil) fun Az Hz => ?_
 refine bc Hz 7 ?_ ?_
 · intro hb _; exact absurd hb (by simp; omega)
 clear Hz; intro _ Hz
 refine goCh Hz (.moveZ rfl <| .faZ 4 rfl U33 <| .loadB1Z m2 (i := 20) rfl rfl rfl U29 rfl <| .lenZ rfl U29 <| .geqZ rfl rfl <| .pickF rfl rfl <| .move rfl .nil) fun Az Hz => ?_
 refine bc Hz 14 ?_ ?_
 · intro hb _; exact absurd hb (by simp; omega)
 clear Hz; intro _ Hz
 refine gz hK2 Hz (.faZ 3 rfl U33 <| .loadB1Z m2 (i := 20) rfl rfl rfl U3 rfl <| .lssZ rfl rfl <| .pickF rfl rfl <| .nil) fun Az Hz => ?_
 refine bc Hz 18 ?_ ?_
 · intro hb _; exact absurd hb (by simp; omega)
 clear Hz; intro _ Hz
 refine wcf Hz ?_
 refine zss (hK1 _ _ ?_)
 replace Hz := Hz.oz [1, 2, 4]
 refine regS Hz (.fa 3 rfl U33 <| .lb m2 20 U3 rfl rfl rfl <| .fa 1 rfl U33 <| .lb m2 20 U3 rfl rfl rfl <| .move rfl <| .fa 3 rfl U33 <| .lb m2 20 U3 rfl rfl rfl <| .mul rfl rfl (r := fi) (by rw [hfi]; exact IntWalk.i64_in _ (by omega)) <| .sub rfl rfl (r := bl - fi) (IntWalk.i64_in _ (by omega)) <| .c rfl (fun _ h_ => y_min h_ rfl rfl (r := cnt) hcnt) <| .assign rfl .nil) fun Az Hz => ?_
 refine rt1 Hz ?_
 exact ⟨rfl, m2.below⟩
theorem rcount_no (vo bl sz pe to ne fl : Int) (hi : Bool) (pp pn pw : Option Addr) (cp : Nat) (place : List Int) (nn9 cn9 nw cw : Nat) (ch : Int) (w0 : World) (hno : ¬ (0 ≤ ch ∧ ch < place.length)) :
   Calls Tryz.prog 47 #[.agg #[.int .i64 vo, .int .i64 bl, .int .i64 sz, .int .i64 pe, .slice pp place.length cp, .int .i64 to, .int .i64 ne, .bool hi, .int .i64 fl, .slice pn nn9 cn9, .slice pw nw cw], .int .i64 ch] w0 fun e w' => e = .returned (.int .i64 0) ∧ Below w0.heap.size w0 w' := by
 refine ent2 Tryz.func47 rfl Tryz.ntmps47 fun Az Hz => ?_
 have m0 := MemOk.start (fun _ => False) w0
 refine zsr fun K0 hK0 => ?_
 refine plz (e_box Hz m0 20 (cs := [_, _, _, _, _, _, _, _, _, _, _]) rfl rfl rfl fun g1 Az w2 Hz m2 _ _ => ?_)
 refine gz hK0 Hz (.assign rfl .nil) fun Az Hz => ?_
 refine wsk fun K1 hK1 => ?_
 refine zsr fun K2 hK2 => ?_
 refine goCh Hz (.move rfl <| .lss rfl rfl <| .move rfl .nil) fun Az Hz => ?_
 refine bc Hz 7 ?_ ?_
 ·
  intro hb10 Hz; try simp only [QQ, Qax] at hb10
  refine gz hK2 Hz (.sk <| .sk <| .sk <| .sk <| .sk <| .pickT rfl rfl <| .move rfl <| .sk <| .sk <| .sk <| .pickT rfl rfl <| .nil) fun Az Hz => ?_
  refine wct Hz ?_
  replace Hz := Hz.oz [1, 2, 4]
  refine regS Hz (.assign rfl .nil) fun Az Hz => ?_
  refine rt1 Hz ?_
  exact ⟨rfl, m2.below⟩
 intro hb10 Hz; try simp only [QQ, Qax] at hb10
 refine goCh Hz (.moveZ rfl <| .faZ 4 rfl U33 <| .loadB1Z m2 (i := 20) rfl rfl rfl U29 rfl <| .lenZ rfl U29 <| .geqZ rfl rfl <| .pickF rfl rfl <| .move rfl .nil) fun Az Hz => ?_
 refine bc Hz 14 ?_ ?_
 rotate_left
 · intro hb _; exact absurd hb (by simp; omega)
 clear Hz; intro _ Hz
 refine gz hK2 Hz (.sk <| .sk <| .sk <| .pickT rfl rfl <| .nil) fun Az Hz => ?_
 refine wct Hz ?_
 replace Hz := Hz.oz [1, 2, 4]
 refine regS Hz (.assign rfl .nil) fun Az Hz => ?_
 refine rt1 Hz ?_
 exact ⟨rfl, m2.below⟩
theorem vpush_no (vo bl sz pe to ne fl : Int) (hi : Bool) (pp pn pw : Option Addr) (cp : Nat) (place : List Int) (nn9 cn9 nw cw : Nat) (ch mk : Int) (w0 : World) (hno : ¬ ((0 ≤ ch ∧ ch < place.length) ∧ (0 ≤ mk ∧ mk ≤ nw))) :
   Calls Tryz.prog 45 #[.agg #[.int .i64 vo, .int .i64 bl, .int .i64 sz, .int .i64 pe, .slice pp place.length cp, .int .i64 to, .int .i64 ne, .bool hi, .int .i64 fl, .slice pn nn9 cn9, .slice pw nw cw], .int .i64 ch, .int .i64 mk] w0 fun e w' => e = .returned (.tuple #[.agg #[.int .i64 0, .int .i64 0, .int .i64 0, .int .i64 0, .int .i64 0, .int .i64 0, .int .i64 0, .slice none 0 0], .bool false]) ∧ Below w0.heap.size w0 w' := by
 refine ent3 Tryz.func45 rfl Tryz.ntmps45 fun Az Hz => ?_
 have m0 := MemOk.start (fun _ => False) w0
 refine zsr fun K0 hK0 => ?_
 refine plz (e_box Hz m0 20 (cs := [_, _, _, _, _, _, _, _, _, _, _]) rfl rfl rfl fun g1 Az w2 Hz m2 _ _ => ?_)
 refine plz (e_alloc Hz m2 21 fct28 rfl fun g3 Az w4 Hz m4 _ _ => ?_)
 refine gz hK0 Hz (.assign rfl .nil) fun Az Hz => ?_
 refine wsk fun K1 hK1 => ?_
 refine zsr fun K2 hK2 => ?_
 refine goCh Hz (.move rfl <| .lss rfl rfl <| .move rfl .nil) fun Az Hz => ?_
 refine bc Hz 15 ?_ ?_
 ·
  intro hb12 Hz; try simp only [QQ, Qax] at hb12
  refine gz hK2 Hz (.sk <| .sk <| .sk <| .sk <| .sk <| .pickT rfl rfl <| .move rfl <| .sk <| .sk <| .pickT rfl rfl <| .move rfl <| .sk <| .sk <| .sk <| .sk <| .pickT rfl rfl <| .nil) fun Az Hz => ?_
  refine wct Hz ?_
  replace Hz := Hz.oz [1, 2, 3, 6, 7]
  refine zsr fun K3 hK3 => ?_
  refine goCh Hz (.build rfl fct28 fl90pQ rfl (by dsimp only [setL, List.set] <;> rfl) .nil) fun Az Hz => ?_
  refine plz (stw Hz m4 21 fct14 fun w32 m32 _ => ?_)
  refine gz hK3 Hz (.assign rfl .nil) fun Az Hz => ?_
  refine rtd (retCT (fn := Tryz.f45) Hz m32 (i := 21) rfl rfl rfl rfl U90 rfl fct14 ?_)
  exact ⟨rfl, m32.below⟩
 intro hb12 Hz; try simp only [QQ, Qax] at hb12
 refine goCh Hz (.moveZ rfl <| .faZ 4 rfl U33 <| .loadB1Z m4 (i := 20) rfl rfl rfl U29 rfl <| .lenZ rfl U29 <| .geqZ rfl rfl <| .pickF rfl rfl <| .move rfl .nil) fun Az Hz => ?_
 refine bc Hz 22 ?_ ?_
 ·
  intro hb41 Hz; try simp only [QQ, Qax] at hb41
  refine gz hK2 Hz (.sk <| .sk <| .pickT rfl rfl <| .move rfl <| .sk <| .sk <| .sk <| .sk <| .pickT rfl rfl <| .nil) fun Az Hz => ?_
  refine wct Hz ?_
  replace Hz := Hz.oz [1, 2, 3, 6, 7]
  refine zsr fun K4 hK4 => ?_
  refine goCh Hz (.build rfl fct28 fl90pQ rfl (by dsimp only [setL, List.set] <;> rfl) .nil) fun Az Hz => ?_
  refine plz (stw Hz m4 21 fct14 fun w54 m54 _ => ?_)
  refine gz hK4 Hz (.assign rfl .nil) fun Az Hz => ?_
  refine rtd (retCT (fn := Tryz.f45) Hz m54 (i := 21) rfl rfl rfl rfl U90 rfl fct14 ?_)
  exact ⟨rfl, m54.below⟩
 intro hb41 Hz; try simp only [QQ, Qax] at hb41
 refine goCh Hz (.moveZ rfl <| .lssZ rfl rfl <| .pickF rfl rfl <| .move rfl .nil) fun Az Hz => ?_
 refine bc Hz 26 ?_ ?_
 ·
  intro hb60 Hz; try simp only [QQ, Qax] at hb60
  refine gz hK2 Hz (.sk <| .sk <| .sk <| .sk <| .pickT rfl rfl <| .nil) fun Az Hz => ?_
  refine wct Hz ?_
  replace Hz := Hz.oz [1, 2, 3, 6, 7]
  refine zsr fun K5 hK5 => ?_
  refine goCh Hz (.build rfl fct28 fl90pQ rfl (by dsimp only [setL, List.set] <;> rfl) .nil) fun Az Hz => ?_
  refine plz (stw Hz m4 21 fct14 fun w69 m69 _ => ?_)
  refine gz hK5 Hz (.assign rfl .nil) fun Az Hz => ?_
  refine rtd (retCT (fn := Tryz.f45) Hz m69 (i := 21) rfl rfl rfl rfl U90 rfl fct14 ?_)
  exact ⟨rfl, m69.below⟩
 intro hb60 Hz; try simp only [QQ, Qax] at hb60
 refine goCh Hz (.moveZ rfl <| .loadBRZ m4 (i := 20) rfl rfl U33 rfl fct1 (by simp) (by dsimp only [List.drop, List.take] <;> rfl) .nil) fun Az Hz => ?_
 refine stz Hz (ecb Hz Tryz.func69 rfl m4 (vlen_any _ _ _ _ _ _ _ _ _ _ _ _ _ _ _ _ _ _) fun Az w73 Hz m74 => ?_)
 refine gz hK2 Hz (.gtrZ rfl rfl <| .pickF rfl rfl <| .nil) fun Az Hz => ?_
 refine bc Hz 31 ?_ ?_
 rotate_left
 · intro hb _; exact absurd hb (by simp; omega)
 clear Hz; intro _ Hz
 refine wct Hz ?_
 replace Hz := Hz.oz [1, 2, 3, 6, 7]
 refine zsr fun K6 hK6 => ?_
 refine goCh Hz (.build rfl fct28 fl90pQ rfl (by dsimp only [setL, List.set] <;> rfl) .nil) fun Az Hz => ?_
 refine plz (stw Hz m74 21 fct14 fun w82 m82 _ => ?_)
 refine gz hK6 Hz (.assign rfl .nil) fun Az Hz => ?_
 refine rtd (retCT (fn := Tryz.f45) Hz m82 (i := 21) rfl rfl rfl rfl U90 rfl fct14 ?_)
 exact ⟨rfl, m82.below⟩
theorem rpush_any (X : Cx) (vo bl sz pe to ne fl : Int) (hi : Bool) (pp pn pw : Option Addr) (cp nn9 cn9 cw : Nat) (place : List Int) (ws : List PWr) (ch fi cnt : Int) (mk tq : Nat) (w0 : World) (hch : 0 ≤ ch ∧ ch < place.length) (hpe : 1 ≤ pe) (hfi : ch * pe = fi) (hfb : 0 ≤ fi ∧ fi ≤ 1000000) (hblb : 0 ≤ bl ∧ bl ≤ 1000000) (hcnt : min pe (bl - fi) = cnt) (hc1 : 1 ≤ cnt) (hl : ws.length ≤ 1000000) (hok : WrsOk ws) (hib : ∀ e ∈ ws, ∀ x ∈ e.2, 0 ≤ x.1 ∧ x.1 < bl) (hmk : mk ≤ ws.length) (htq : min ((mk : Int) + 4) ws.length = tq) (m0 : MemOk X w0 [(3, .dat (.slice pw (ws.map wrD).length cw) (.l 2 (ws.map wrD)))] w0) :
   Calls Tryz.prog 34 #[.agg #[.int .i64 vo, .int .i64 bl, .int .i64 sz, .int .i64 pe, .slice pp place.length cp, .int .i64 to, .int .i64 ne, .bool hi, .int .i64 fl, .slice pn nn9 cn9, .slice pw (ws.map wrD).length cw], .int .i64 ch, .int .i64 (mk : Int)] w0 fun e w' => ∃ p c, e = .returned (.tuple #[.agg #[.int .i64 vo, .int .i64 ch, .int .i64 cnt, .int .i64 sz, .int .i64 (mk : Int), .int .i64 (tq : Int), .int .i64 (min fl tq), .slice p ((pushL fi cnt ((ws.take tq).drop mk)).map wrD).length c], .bool true]) ∧ MemOk X w0 [(3, .dat (.slice pw (ws.map wrD).length cw) (.l 2 (ws.map wrD))), (9, .dat (.slice p ((pushL fi cnt ((ws.take tq).drop mk)).map wrD).length c) (.l 2 ((pushL fi cnt ((ws.take tq).drop mk)).map wrD)))] w' := by
 refine ent3 Tryz.func34 rfl Tryz.ntmps34 fun Az Hz => ?_
 obtain ⟨W2, hW2⟩ : ∃ x, (ws.take tq).drop mk = x := ⟨_, rfl⟩
 have hW2l : W2.length = tq - mk := by rw [← hW2, List.length_drop, List.length_take]; omega
 refine zsr fun K0 hK0 => ?_
 refine plz (e_box Hz m0 70 (cs := [_, _, _, _, _, _, _, _, _, _, _]) rfl rfl rfl fun g1 Az w2 Hz m2 _ _ => ?_)
 refine plz (e_alloc Hz m2 71 fct28 rfl fun g3 Az w4 Hz m4 _ _ => ?_)
 refine gz hK0 Hz (.assign rfl .nil) fun Az Hz => ?_
 refine zsr fun K1 hK1 => ?_
 refine goCh Hz (.loadBR m4 (i := 70) rfl rfl U33 rfl fct1 (by simp) (by dsimp only [List.drop, List.take] <;> rfl) <| .move rfl .nil) fun Az Hz => ?_
 refine plz (ecb Hz Tryz.func47 rfl m4 (rcount_yes _ _ _ _ _ _ _ _ _ _ _ _ place _ _ _ _ _ fi cnt _ hch hpe hfi hfb hblb hcnt) fun Az w10 Hz m11 => ?_)
 refine gz hK1 Hz (.assign rfl .nil) fun Az Hz => ?_
 refine wsk fun K2 hK2 => ?_
 refine zsr fun K3 hK3 => ?_
 refine goCh Hz (.move rfl <| .lss rfl rfl <| .move rfl .nil) fun Az Hz => ?_
 refine bc Hz 20 ?_ ?_
 · intro hb _; exact absurd hb (by first | (simp; done) | (simp; omega))
 clear Hz; intro _ Hz
 refine goCh Hz (.moveZ rfl <| .lssZ rfl rfl <| .pickF rfl rfl <| .move rfl .nil) fun Az Hz => ?_
 refine bc Hz 24 ?_ ?_
 · intro hb _; exact absurd hb (by first | (simp; done) | (simp; omega))
 clear Hz; intro _ Hz
 refine goCh Hz (.moveZ rfl <| .loadBRZ m11 (i := 70) rfl rfl U33 rfl fct1 (by simp) (by dsimp only [List.drop, List.take] <;> rfl) .nil) fun Az Hz => ?_
 refine stz Hz (ecb Hz Tryz.func13 rfl m11 (rlen_m _ _ _ _ _ _ _ _ _ _ _ _ _ _ _ _ _ _) fun Az w28 Hz m29 => ?_)
 refine gz hK3 Hz (.gtrZ rfl rfl <| .pickF rfl rfl <| .nil) fun Az Hz => ?_
 refine bc Hz 29 ?_ ?_
 · intro hb _; exact absurd hb (by first | (simp; done) | (simp; omega))
 clear Hz; intro _ Hz
 refine wcf Hz ?_
 refine zss (hK2 _ _ ?_)
 refine wsk fun K4 hK4 => ?_
 replace Hz := Hz.oz [1, 2, 3, 6, 7, 8]
 have m35 := m29.oz [3, 70, 71]
 refine region_p 15 (B := [(70, _)]) (m35.to ⟨il, trivial⟩) m35 (by kernel_rfl) (fun w36 hP36 m36 => ?_); clear m35
 refine goR hP36 [0, 1, 2, 3, 4, 5, 6, 7, 8, 9] [1, 5, 9] 10 0 1023 Hz (m36.to ⟨il, trivial⟩) (.fa 0 rfl U33 <| .lb hh 70 U3 rfl rfl rfl <| .move rfl <| .move rfl <| .fa 2 rfl U33 <| .lb hh 70 U3 rfl rfl rfl <| .move rfl <| .move rfl <| .add rfl rfl (r := (mk : Int) + 4) (IntWalk.i64_in _ (by omega)) <| .loadBR hh (i := 70) rfl rfl U33 rfl fct1 (by simp) (by dsimp only [List.drop, List.take] <;> rfl) .nil) fun Az Hz => ?_
 refine dtw 10 13 ?_ ?_
 ·
  refine ecb Hz Tryz.func13 rfl m36 (rlen_m _ _ _ _ _ _ _ _ _ _ _ _ _ _ _ _ _ _) fun Az w47 Hz m48 => ?_
  refine ⟨fun _ => (m48.to ⟨il, trivial⟩), ?_⟩
  refine goA hP36 [11, 12] 2 2047 8191 Hz (m48.to ⟨il, trivial⟩) (.p (fun _ _ h_ => y_min h_ rfl rfl (r := (tq : Int)) htq) <| .build rfl fct28 fl90rpu rfl (by dsimp only [setL, List.set] <;> rfl) .nil) fun Az Hz => ?_
  refine so 13 ?_
  refine e_alloc Hz m48 72 fct28 rfl fun g52 Az w53 Hz m53 _ _ => ?_
  refine ⟨m53.to ⟨il, trivial⟩, ?_⟩
  refine so 14 ?_
  refine stw Hz m53 72 fct14 fun w54 m54 _ => ?_
  refine ⟨m54.to ⟨il, trivial⟩, ?_⟩
  refine wpAnyE_done (by kernel_rfl) ?_ _
  refine hK4 _ _ ?_
  replace Hz := Hz.oz [1, 3, 6, 7, 8, 9]
  refine zsr fun K5 hK5 => ?_
  refine goCh Hz (.fa 8 rfl U33 <| .lb m54 70 U2 rfl rfl rfl <| .fa 5 rfl U90 <| .lb m54 72 U2 rfl rfl rfl <| .c rfl (fun _ h_ => y_min h_ rfl rfl rfl) <| .fa 6 rfl U90 .nil) fun Az Hz => ?_
  refine plz (st1 Hz m54 72 fct10 fun w68 m68 _ => ?_)
  refine znl (hK5 _ _ ?_)
  refine wsk fun K6 hK6 => ?_
  replace Hz := Hz.oz [1, 3, 6, 7, 8, 9]
  refine regS Hz (.fa 4 rfl U90 <| .lb m68 72 U2 rfl rfl rfl <| .assign rfl .nil) fun Az Hz => ?_
  refine wp_block ?_
  refine wp_loop_ghost (fun g a w => ∃ (k B3 B6 B9 : Nat) (p : Option Addr) (c : Nat), mk + k ≤ tq ∧ g = tq - mk - k ∧ Has 112 [(1, .int .i64 ch), (3, .pointer (some ⟨B3, 0, none⟩)), (6, .pointer (some ⟨B6, 0, none⟩)), (8, .int .i64 cnt), (9, .pointer (some ⟨B9, 0, none⟩)), (10, .int .i64 ((mk + k : Nat) : Int))] a ∧ MemOk X w0 [(1, .box B3 33 [.int .i64 vo, .int .i64 bl, .int .i64 sz, .int .i64 pe, .slice pp place.length cp, .int .i64 to, .int .i64 ne, .bool hi, .int .i64 fl, .slice pn nn9 cn9, .slice pw (ws.map wrD).length cw]), (6, .box B6 90 [.int .i64 0, .int .i64 0, .int .i64 0, .int .i64 0, .int .i64 0, .int .i64 0, .int .i64 0, .slice none 0 0]), (9, .box B9 90 [.int .i64 vo, .int .i64 ch, .int .i64 cnt, .int .i64 sz, .int .i64 mk, .int .i64 tq, .int .i64 (min fl tq), .slice p ((pushL fi cnt (W2.take k)).map wrD).length c]), (10, .row (.slice p ((pushL fi cnt (W2.take k)).map wrD).length c) 109 2 ((pushL fi cnt (W2.take k)).map wrD)), (3, .dat (.slice pw (ws.map wrD).length cw) (.l 2 (ws.map wrD)))] w) (tq - mk) ?_ ?_
  · have mz := m68.nilR 10 109 2
    exact ⟨0, _, _, _, _, _, by omega, rfl, Hz.only [1, 3, 6, 8, 9, 10], mz.ren [(1, 70), (6, 71), (9, 72), (10, 10), (3, 3)] (by decide)⟩
  clear Hz m68
  rintro g Az w73 ⟨k, B3, B6, B9, p, c, hkl, hg, Hz, m73⟩
  refine wsk fun K7 hK7 => ?_
  refine regS Hz (.move rfl <| .fa 5 rfl U90 <| .lb m73 9 U2 rfl rfl rfl <| .lss rfl rfl .nil) fun Az Hz => ?_
  refine bc Hz 55 ?_ ?_
  ·
   intro hb78 Hz; try simp only [QQ, Qax] at hb78
   have hk : k < W2.length := by omega
   obtain ⟨⟨xs, xl⟩, hes2⟩ : ∃ e, W2[k]? = some e := ⟨_, List.getElem?_eq_getElem hk⟩
   have hes : ws[mk + k]? = some (xs, xl) := by rw [← hW2, List.getElem?_drop, List.getElem?_take] at hes2; split at hes2; (exact hes2); (cases hes2)
   have hok2 := hok _ (List.mem_of_getElem? hes)
   dsimp only at hok2
   have hib2 := hib _ (List.mem_of_getElem? hes)
   dsimp only at hib2
   refine wct Hz ?_
   refine zss (hK7 _ _ ?_)
   refine wsk fun K8 hK8 => ?_
   refine wp_block ?_
   refine regS Hz (.assign rfl .nil) fun Az Hz => ?_
   refine zsr fun K9 hK9 => ?_
   refine goCh Hz (.fa 10 rfl U33 <| .lb m73 1 U31 rfl rfl rfl <| .move rfl .nil) fun Az Hz => ?_
   obtain ⟨b87, o87, vs87, hp87, hR87, ho87, m87⟩ := m73.openR (i := 3) rfl ((mk + k)) (r := [.v (.int .i64 xs), .l 2 (xl.map itD)]) (wrD_get hes) 100 rfl
   revert Hz
   cases hp87; clear m73 ho87
   rcases hR87 with _ | ⟨hd87_0, _ | ⟨hd87_1, _ | _⟩⟩
   obtain rfl := hd87_0.v_out
   clear hd87_0
   obtain ⟨p88, c88, hv88, hc88⟩ := hd87_1.l_shape; subst hv88
   intro Hz
   have m88 := m87.dat 101 rfl (hd87_1.cast (fun _ h => (free_add rfl h))); clear m87 hd87_1
   refine goCh Hz (.c rfl (fun _ h_ => y_idx h_ rfl rfl U31 fct15 ((mk + k)) rfl (by rw [List.length_map]; omega)) <| .loadCR m88 (i := 100) rfl rfl U109 rfl fct15 .nil) fun Az Hz => ?_
   refine plz (e_alloc Hz m88 102 fct18 rfl fun g91 Az w92 Hz m92 _ _ => ?_)
   refine plz (stw Hz m92 102 fct15 fun w93 m93 _ => ?_)
   refine znl (hK9 _ _ ?_)
   refine wsk fun K10 hK10 => ?_
   replace Hz := Hz.oz [1, 3, 6, 8, 9, 10, 11, 12]
   refine regS Hz (.assign rfl .nil) fun Az Hz => ?_
   refine wp_block ?_
   refine wp_loop_ghost (fun g a w => ∃ (j B3 B6 B9 B12 : Nat) (p p2 px : Option Addr) (c c2 cx9 : Nat), j ≤ xl.length ∧ g = xl.length - j ∧ Has 112 [(1, .int .i64 ch), (3, .pointer (some ⟨B3, 0, none⟩)), (6, .pointer (some ⟨B6, 0, none⟩)), (8, .int .i64 cnt), (9, .pointer (some ⟨B9, 0, none⟩)), (10, .int .i64 ((mk + k : Nat) : Int)), (11, .slice p2 ((itemsL fi cnt (xl.take j)).map itD).length c2), (12, .pointer (some ⟨B12, 0, none⟩)), (13, .int .i64 j)] a ∧ MemOk X w0 [(1, .box B3 33 [.int .i64 vo, .int .i64 bl, .int .i64 sz, .int .i64 pe, .slice pp place.length cp, .int .i64 to, .int .i64 ne, .bool hi, .int .i64 fl, .slice pn nn9 cn9, .slice (some ⟨b87, o87, none⟩) (ws.map wrD).length cw]), (6, .box B6 90 [.int .i64 0, .int .i64 0, .int .i64 0, .int .i64 0, .int .i64 0, .int .i64 0, .int .i64 0, .slice none 0 0]), (9, .box B9 90 [.int .i64 vo, .int .i64 ch, .int .i64 cnt, .int .i64 sz, .int .i64 mk, .int .i64 tq, .int .i64 (min fl tq), .slice p ((pushL fi cnt (W2.take k)).map wrD).length c]), (10, .row (.slice p ((pushL fi cnt (W2.take k)).map wrD).length c) 109 2 ((pushL fi cnt (W2.take k)).map wrD)), (3, .dat (.slice (some ⟨b87, o87, none⟩) (ws.map wrD).length cw) (.l 2 (ws.map wrD))), (12, .box B12 109 [.int .i64 xs, .slice px (xl.map itD).length cx9]), (13, .dat (.slice px (xl.map itD).length cx9) (.l 2 (xl.map itD))), (14, .row (.slice p2 ((itemsL fi cnt (xl.take j)).map itD).length c2) 111 2 ((itemsL fi cnt (xl.take j)).map itD))] w) (xl.length) ?_ ?_
   · have mz := m93.nilR 14 111 2
     exact ⟨0, _, _, _, _, _, _, _, _, _, _, Nat.zero_le _, rfl, Hz.only [1, 3, 6, 8, 9, 10, 11, 12, 13], mz.ren [(1, 1), (6, 6), (9, 9), (10, 10), (3, 3), (12, 102), (13, 101), (14, 14)] (by decide)⟩
   clear Hz m93
   rintro g Az w96 ⟨j, B3, B6, B9, B12, p, p2, px, c, c2, cx9, hjl, hg2, Hz, m96⟩
   refine wsk fun K11 hK11 => ?_
   refine regS Hz (.move rfl <| .fa 1 rfl U109 <| .lb m96 12 U40 rfl rfl rfl <| .len rfl U40 <| .lss rfl rfl .nil) fun Az Hz => ?_
   refine bc Hz 67 ?_ ?_
   ·
    intro hb102 Hz; try simp only [QQ, Qax] at hb102
    rw [List.length_map] at hb102
    have hj : j < xl.length := by omega
    obtain ⟨⟨xb, xd⟩, hxs⟩ : ∃ e, xl[j]? = some e := ⟨_, List.getElem?_eq_getElem hj⟩
    have hxb := hib2 _ (List.mem_of_getElem? hxs)
    dsimp only at hxb
    have hed := hok2.2 _ (List.mem_of_getElem? hxs)
    dsimp only at hed
    refine wct Hz ?_
    refine zss (hK11 _ _ ?_)
    refine wsk fun K12 hK12 => ?_
    refine wp_block ?_
    refine wsk fun K13 hK13 => ?_
    obtain ⟨b103, o103, vs103, hp103, hR103, ho103, m103⟩ := m96.openR (i := 13) rfl (j) (r := [.v (.int .i64 xb), .ns .u8 xd]) (itD_get hxs) 200 rfl
    revert Hz
    cases hp103; clear m96 ho103
    rcases hR103 with _ | ⟨hd103_0, _ | ⟨hd103_1, _ | _⟩⟩
    obtain rfl := hd103_0.v_out
    clear hd103_0
    obtain ⟨p104, c104, hv104, hc104⟩ := hd103_1.ns_shape; subst hv104
    intro Hz
    have m104 := m103.dat 201 rfl (hd103_1.cast (fun _ h => (free_add rfl h))); clear m103 hd103_1
    have m105 := m104.oz [1, 3, 6, 9, 10, 12, 13, 14, 200, 201]
    refine region_p 12 (B := [(1, _), (3, _), (6, _), (9, _), (10, _), (12, _), (13, _), (14, _), (200, _), (201, _)]) (m105.to ⟨il, il, il, il, il, il, il, il, il, il, trivial⟩) m105 (by kernel_rfl) (fun w106 hP106 m106 => ?_); clear m105
    refine goR hP106 [0, 1, 2, 3, 4, 5, 6, 7, 8, 9, 10, 11] [1, 5, 8] 12 0 4095 Hz (m106.to ⟨il, il, il, il, il, il, il, il, il, il, trivial⟩) (.fa 1 rfl U109 <| .lb hh 12 U40 rfl rfl rfl <| .move rfl <| .p (fun _ _ h_ => y_idx h_ rfl rfl U40 fct16 (j) rfl (by simpa using hj)) <| .fieldAddrQ 0 rfl U111 rfl (s := 0) (by kernel_rfl) rfl <| .loadC0 hh (i := 200) rfl rfl U3 rfl <| .move rfl <| .fa 3 rfl U33 <| .lb hh 1 U3 rfl rfl rfl <| .mul rfl rfl (r := fi) (by rw [hfi]; exact IntWalk.i64_in _ (by omega)) <| .sub rfl rfl (r := xb - fi) (IntWalk.i64_in _ (by omega)) <| .assign rfl .nil) fun Az Hz => ?_
    refine wpAnyE_done (by kernel_rfl) ?_ _
    refine hK13 _ _ ?_
    replace Hz := Hz.oz [1, 3, 6, 8, 9, 10, 11, 12, 13, 14]
    refine zsr fun K14 hK14 => ?_
    refine goCh Hz (.move rfl <| .geq rfl rfl <| .move rfl .nil) fun Az Hz => ?_
    refine bc Hz 83 ?_ ?_
    ·
     intro hb126 Hz; try simp only [QQ, Qax] at hb126
     refine gz hK14 Hz (.moveZ rfl <| .moveZ rfl <| .lssZ rfl rfl <| .pickT rfl rfl <| .nil) fun Az Hz => ?_
     refine bc Hz 87 ?_ ?_
     ·
      intro hb131 Hz; try simp only [QQ, Qax] at hb131
      refine wct Hz ?_
      refine wp_region_lit ?_
      refine goCh Hz (.move rfl <| .move rfl <| .fa 1 rfl U109 <| .lb m106 12 U40 rfl rfl rfl <| .move rfl .nil) fun Az Hz => ?_
      obtain ⟨b137, o137, vs137, hp137, hR137, ho137, m137⟩ := m106.openR (i := 13) rfl (j) (r := [.v (.int .i64 xb), .ns .u8 xd]) (itD_get hxs) 202 rfl
      revert Hz
      cases hp137; clear m106 ho137
      rcases hR137 with _ | ⟨hd137_0, _ | ⟨hd137_1, _ | _⟩⟩
      obtain rfl := hd137_0.v_out
      clear hd137_0
      obtain ⟨p138, c138, hv138, hc138⟩ := hd137_1.ns_shape; subst hv138
      intro Hz
      have m138 := m137.dat 203 rfl (hd137_1.cast (fun _ h => (free_add rfl h))); clear m137 hd137_1
      refine goCh Hz (.c rfl (fun _ h_ => y_idx h_ rfl rfl U40 fct16 (j) rfl (by simpa using hj)) <| .fieldAddrQ 1 rfl U111 rfl (s := 0) (by kernel_rfl) rfl <| .loadC1 m138 (i := 202) (q := 1) rfl rfl rfl U22 rfl <| .build rfl fct25 fl111rpu rfl (by dsimp only [setL, List.set] <;> rfl) .nil) fun Az Hz => ?_
      refine plz (e_litR Hz m138 204 (mm := 2) rfl (.cons rfl rfl (.cons (.v _) (.cons (m138.rd (i := 203) rfl) .nil)) .nil) U40 fct24 rfl rfl rfl rfl rfl fun g143 Az w144 Hz m144 => ?_)
      have m146 := m144.freezeR 204 rfl
      refine plz (e_appR Hz m146 14 rfl rfl rfl (m146.rd (i := 204) rfl) U40 fct24 rfl rfl (by decide) (by have := itemsL_len fi cnt (xl.take j); rw [List.length_take] at this; simp; omega) rfl fun p145 c145 Az w147 Hz m147 => ?_)
      refine gz hK12 Hz (.assign rfl .nil) fun Az Hz => ?_
      replace Hz := Hz.oz [1, 3, 6, 8, 9, 10, 11, 12, 13, 83, 87, 90]
      refine wp_region_lit ?_
      refine goCh Hz (.move rfl <| .inc (j + 1) <| .assign rfl .nil) fun Az Hz => ?_
      refine wpList_nil ?_
      show ∃ n', n' < _ ∧ _
      have hE : (itemsL fi cnt (xl.take j)).map itD ++ [[D.v (.int .i64 (xb - fi)), .ns .u8 xd]] = (itemsL fi cnt (xl.take (j + 1))).map itD := by rw [itemsL_yes hxs (by omega), List.map_append]; rfl
      rw [hE] at m147 Hz
      exact ⟨xl.length - (j + 1), by omega, j + 1, _, _, _, _, _, _, _, _, _, _, by omega, rfl, Hz.only [1, 3, 6, 8, 9, 10, 11, 12, 13], m147.ren [(1, 1), (6, 6), (9, 9), (10, 10), (3, 3), (12, 12), (13, 13), (14, 14)] (by decide)⟩
     intro hb131 Hz; try simp only [QQ, Qax] at hb131
     refine wcf Hz ?_
     refine zss (hK12 _ _ ?_)
     replace Hz := Hz.oz [1, 3, 6, 8, 9, 10, 11, 12, 13, 83, 87]
     refine wp_region_lit ?_
     refine goCh Hz (.move rfl <| .inc (j + 1) <| .assign rfl .nil) fun Az Hz => ?_
     refine wpList_nil ?_
     show ∃ n', n' < _ ∧ _
     have hE : (itemsL fi cnt (xl.take j)) = itemsL fi cnt (xl.take (j + 1)) := (itemsL_no hxs (by omega)).symm
     rw [hE] at m106 Hz
     exact ⟨xl.length - (j + 1), by omega, j + 1, _, _, _, _, _, _, _, _, _, _, by omega, rfl, Hz.only [1, 3, 6, 8, 9, 10, 11, 12, 13], m106.ren [(1, 1), (6, 6), (9, 9), (10, 10), (3, 3), (12, 12), (13, 13), (14, 14)] (by decide)⟩
    intro hb126 Hz; try simp only [QQ, Qax] at hb126
    refine gz hK14 Hz (.sk <| .sk <| .sk <| .pickF rfl rfl <| .nil) fun Az Hz => ?_
    refine wcf Hz ?_
    refine zss (hK12 _ _ ?_)
    replace Hz := Hz.oz [1, 3, 6, 8, 9, 10, 11, 12, 13, 83, 87]
    refine wp_region_lit ?_
    refine goCh Hz (.move rfl <| .inc (j + 1) <| .assign rfl .nil) fun Az Hz => ?_
    refine wpList_nil ?_
    show ∃ n', n' < _ ∧ _
    have hE : (itemsL fi cnt (xl.take j)) = itemsL fi cnt (xl.take (j + 1)) := (itemsL_no hxs (by omega)).symm
    rw [hE] at m106 Hz
    exact ⟨xl.length - (j + 1), by omega, j + 1, _, _, _, _, _, _, _, _, _, _, by omega, rfl, Hz.only [1, 3, 6, 8, 9, 10, 11, 12, 13], m106.ren [(1, 1), (6, 6), (9, 9), (10, 10), (3, 3), (12, 12), (13, 13), (14, 14)] (by decide)⟩
   intro hb102 Hz; try simp only [QQ, Qax] at hb102
   rw [List.length_map] at hb102
   revert Hz
   obtain rfl : j = xl.length := by omega
   intro Hz
   rw [List.take_length] at m96 Hz
   refine wcf Hz ?_
   refine wp_exit ?_
   refine hK10 _ _ ?_
   refine regS Hz (.move rfl <| .len rfl U40 <| .gtr rfl rfl .nil) fun Az Hz => ?_
   refine bc Hz 101 ?_ ?_
   ·
    intro hb168 Hz; try simp only [QQ, Qax] at hb168
    refine wct Hz ?_
    replace Hz := Hz.oz [1, 3, 6, 8, 9, 10, 11, 12, 13, 101]
    refine wp_region_lit ?_
    refine goCh Hz (.fa 7 rfl U90 <| .lb m96 9 U31 rfl rfl rfl <| .fa 0 rfl U109 <| .lb m96 12 U2 rfl rfl rfl <| .move rfl <| .build rfl fct18 fl109rpu rfl (by dsimp only [setL, List.set] <;> rfl) .nil) fun Az Hz => ?_
    have m177 := m96.freezeR 14 rfl
    refine plz (e_litR Hz m177 200 (mm := 2) rfl (.cons rfl rfl (.cons (.v _) (.cons (m177.rd (i := 14) rfl) .nil)) .nil) U31 fct26 rfl rfl rfl rfl rfl fun g176 Az w178 Hz m178 => ?_)
    have m180 := m178.freezeR 200 rfl
    refine plz (e_appR Hz m180 10 rfl rfl rfl (m180.rd (i := 200) rfl) U31 fct26 rfl rfl (by decide) (by have := push_len fi cnt (W2.take k); rw [List.length_take] at this; simp; omega) rfl fun p179 c179 Az w181 Hz m181 => ?_)
    refine goCh Hz (.fieldAddr (off := 7) rfl U90 rfl (s := 0) (by kernel_rfl) rfl .nil) fun Az Hz => ?_
    refine plz (st1 Hz m181 9 fct27 fun w183 m183 _ => ?_)
    refine znl (hK8 _ _ ?_)
    replace Hz := Hz.oz [1, 3, 6, 8, 9, 10, 11, 12, 13, 101]
    refine wp_region_lit ?_
    refine goCh Hz (.move rfl <| .add rfl rfl (r := ((mk + (k + 1) : Nat) : Int)) (by rw [IntWalk.i64_in _ (by omega)]; omega) <| .assign rfl .nil) fun Az Hz => ?_
    refine wpList_nil ?_
    show ∃ n', n' < _ ∧ _
    have hE : (pushL fi cnt (W2.take k)).map wrD ++ [[D.v (.int .i64 xs), .l 2 ((itemsL fi cnt xl).map itD)]] = (pushL fi cnt (W2.take (k + 1))).map wrD := by rw [push_yes hes2 (by have h9 := hb168; rw [List.length_map] at h9; omega), List.map_append]; rfl
    rw [hE] at m183
    exact ⟨tq - mk - (k + 1), by omega, k + 1, _, _, _, _, _, by omega, rfl, Hz.only [1, 3, 6, 8, 9, 10], m183.ren [(1, 1), (6, 6), (9, 9), (10, 10), (3, 3)] (by decide)⟩
   intro hb168 Hz; try simp only [QQ, Qax] at hb168
   refine wcf Hz ?_
   refine zss (hK8 _ _ ?_)
   replace Hz := Hz.oz [1, 3, 6, 8, 9, 10, 11, 12, 13, 101]
   refine wp_region_lit ?_
   refine goCh Hz (.move rfl <| .add rfl rfl (r := ((mk + (k + 1) : Nat) : Int)) (by rw [IntWalk.i64_in _ (by omega)]; omega) <| .assign rfl .nil) fun Az Hz => ?_
   refine wpList_nil ?_
   show ∃ n', n' < _ ∧ _
   have hE : (pushL fi cnt (W2.take k)) = pushL fi cnt (W2.take (k + 1)) := (push_no hes2 (by have h9 := hb168; rw [List.length_map] at h9; omega)).symm
   rw [hE] at m96
   exact ⟨tq - mk - (k + 1), by omega, k + 1, _, _, _, _, _, by omega, rfl, Hz.only [1, 3, 6, 8, 9, 10], m96.ren [(1, 1), (6, 6), (9, 9), (10, 10), (3, 3)] (by decide)⟩
  intro hb78 Hz; try simp only [QQ, Qax] at hb78
  revert Hz
  obtain rfl : k = W2.length := by omega
  intro Hz
  refine wcf Hz ?_
  refine wp_exit ?_
  refine hK6 _ _ ?_
  refine zsr fun K15 hK15 => ?_
  refine goCh Hz (.loadBR m73 (i := 9) rfl rfl U90 rfl fct14 (by simp) (by dsimp only [List.drop, List.take] <;> rfl) .nil) fun Az Hz => ?_
  refine plz (stw Hz m73 6 fct14 fun w194 m194 _ => ?_)
  refine gz hK15 Hz (.assign rfl .nil) fun Az Hz => ?_
  refine rtd (retCT (fn := Tryz.f34) Hz m194 (i := 6) rfl rfl rfl rfl U90 rfl fct14 ?_)
  rw [List.take_length] at *
  have m196 := m194.freezeR 10 rfl
  rw [hW2]
  exact ⟨_, _, rfl, m196.ren [(3, 3), (9, 10)] (by decide)⟩
 refine e_alloc Hz m36 72 fct28 rfl fun g197 Az w198 Hz m198 _ _ => ?_
 refine ⟨fun _ => (m198.to ⟨il, trivial⟩), ?_⟩
 refine so 10 ?_
 refine ecb Hz Tryz.func13 rfl m198 (rlen_m _ _ _ _ _ _ _ _ _ _ _ _ _ _ _ _ _ _) fun Az w199 Hz m200 => ?_
 refine ⟨m200.to ⟨il, trivial⟩, ?_⟩
 refine goA hP36 [11, 12] 2 10239 16383 Hz (m200.to ⟨il, trivial⟩) (.p (fun _ _ h_ => y_min h_ rfl rfl (r := (tq : Int)) htq) <| .build rfl fct28 fl90rpu rfl (by dsimp only [setL, List.set] <;> rfl) .nil) fun Az Hz => ?_
 refine so 14 ?_
 refine stw Hz m200 72 fct14 fun w204 m204 _ => ?_
 refine ⟨m204.to ⟨il, trivial⟩, ?_⟩
 refine wpAnyE_done (by kernel_rfl) ?_ _
 refine hK4 _ _ ?_
 replace Hz := Hz.oz [1, 3, 6, 7, 8, 9]
 refine zsr fun K16 hK16 => ?_
 refine goCh Hz (.fa 8 rfl U33 <| .lb m204 70 U2 rfl rfl rfl <| .fa 5 rfl U90 <| .lb m204 72 U2 rfl rfl rfl <| .c rfl (fun _ h_ => y_min h_ rfl rfl rfl) <| .fa 6 rfl U90 .nil) fun Az Hz => ?_
 refine plz (st1 Hz m204 72 fct10 fun w218 m218 _ => ?_)
 refine znl (hK16 _ _ ?_)
 refine wsk fun K17 hK17 => ?_
 replace Hz := Hz.oz [1, 3, 6, 7, 8, 9]
 refine regS Hz (.fa 4 rfl U90 <| .lb m218 72 U2 rfl rfl rfl <| .assign rfl .nil) fun Az Hz => ?_
 refine wp_block ?_
 refine wp_loop_ghost (fun g a w => ∃ (k B3 B6 B9 : Nat) (p : Option Addr) (c : Nat), mk + k ≤ tq ∧ g = tq - mk - k ∧ Has 112 [(1, .int .i64 ch), (3, .pointer (some ⟨B3, 0, none⟩)), (6, .pointer (some ⟨B6, 0, none⟩)), (8, .int .i64 cnt), (9, .pointer (some ⟨B9, 0, none⟩)), (10, .int .i64 ((mk + k : Nat) : Int))] a ∧ MemOk X w0 [(1, .box B3 33 [.int .i64 vo, .int .i64 bl, .int .i64 sz, .int .i64 pe, .slice pp place.length cp, .int .i64 to, .int .i64 ne, .bool hi, .int .i64 fl, .slice pn nn9 cn9, .slice pw (ws.map wrD).length cw]), (6, .box B6 90 [.int .i64 0, .int .i64 0, .int .i64 0, .int .i64 0, .int .i64 0, .int .i64 0, .int .i64 0, .slice none 0 0]), (9, .box B9 90 [.int .i64 vo, .int .i64 ch, .int .i64 cnt, .int .i64 sz, .int .i64 mk, .int .i64 tq, .int .i64 (min fl tq), .slice p ((pushL fi cnt (W2.take k)).map wrD).length c]), (10, .row (.slice p ((pushL fi cnt (W2.take k)).map wrD).length c) 109 2 ((pushL fi cnt (W2.take k)).map wrD)), (3, .dat (.slice pw (ws.map wrD).length cw) (.l 2 (ws.map wrD)))] w) (tq - mk) ?_ ?_
 · have mz := m218.nilR 10 109 2
   exact ⟨0, _, _, _, _, _, by omega, rfl, Hz.only [1, 3, 6, 8, 9, 10], mz.ren [(1, 70), (6, 71), (9, 72), (10, 10), (3, 3)] (by decide)⟩
 clear Hz m218
 rintro g Az w223 ⟨k, B3, B6, B9, p, c, hkl, hg, Hz, m223⟩
 refine wsk fun K18 hK18 => ?_
 refine regS Hz (.move rfl <| .fa 5 rfl U90 <| .lb m223 9 U2 rfl rfl rfl <| .lss rfl rfl .nil) fun Az Hz => ?_
 refine bc Hz 55 ?_ ?_
 ·
  intro hb228 Hz; try simp only [QQ, Qax] at hb228
  have hk : k < W2.length := by omega
  obtain ⟨⟨xs, xl⟩, hes2⟩ : ∃ e, W2[k]? = some e := ⟨_, List.getElem?_eq_getElem hk⟩
  have hes : ws[mk + k]? = some (xs, xl) := by rw [← hW2, List.getElem?_drop, List.getElem?_take] at hes2; split at hes2; (exact hes2); (cases hes2)
  have hok2 := hok _ (List.mem_of_getElem? hes)
  dsimp only at hok2
  have hib2 := hib _ (List.mem_of_getElem? hes)
  dsimp only at hib2
  refine wct Hz ?_
  refine zss (hK18 _ _ ?_)
  refine wsk fun K19 hK19 => ?_
  refine wp_block ?_
  refine regS Hz (.assign rfl .nil) fun Az Hz => ?_
  refine zsr fun K20 hK20 => ?_
  refine goCh Hz (.fa 10 rfl U33 <| .lb m223 1 U31 rfl rfl rfl <| .move rfl .nil) fun Az Hz => ?_
  obtain ⟨b237, o237, vs237, hp237, hR237, ho237, m237⟩ := m223.openR (i := 3) rfl ((mk + k)) (r := [.v (.int .i64 xs), .l 2 (xl.map itD)]) (wrD_get hes) 100 rfl
  revert Hz
  cases hp237; clear m223 ho237
  rcases hR237 with _ | ⟨hd237_0, _ | ⟨hd237_1, _ | _⟩⟩
  obtain rfl := hd237_0.v_out
  clear hd237_0
  obtain ⟨p238, c238, hv238, hc238⟩ := hd237_1.l_shape; subst hv238
  intro Hz
  have m238 := m237.dat 101 rfl (hd237_1.cast (fun _ h => (free_add rfl h))); clear m237 hd237_1
  refine goCh Hz (.c rfl (fun _ h_ => y_idx h_ rfl rfl U31 fct15 ((mk + k)) rfl (by rw [List.length_map]; omega)) <| .loadCR m238 (i := 100) rfl rfl U109 rfl fct15 .nil) fun Az Hz => ?_
  refine plz (e_alloc Hz m238 102 fct18 rfl fun g241 Az w242 Hz m242 _ _ => ?_)
  refine plz (stw Hz m242 102 fct15 fun w243 m243 _ => ?_)
  refine znl (hK20 _ _ ?_)
  refine wsk fun K21 hK21 => ?_
  replace Hz := Hz.oz [1, 3, 6, 8, 9, 10, 11, 12]
  refine regS Hz (.assign rfl .nil) fun Az Hz => ?_
  refine wp_block ?_
  refine wp_loop_ghost (fun g a w => ∃ (j B3 B6 B9 B12 : Nat) (p p2 px : Option Addr) (c c2 cx9 : Nat), j ≤ xl.length ∧ g = xl.length - j ∧ Has 112 [(1, .int .i64 ch), (3, .pointer (some ⟨B3, 0, none⟩)), (6, .pointer (some ⟨B6, 0, none⟩)), (8, .int .i64 cnt), (9, .pointer (some ⟨B9, 0, none⟩)), (10, .int .i64 ((mk + k : Nat) : Int)), (11, .slice p2 ((itemsL fi cnt (xl.take j)).map itD).length c2), (12, .pointer (some ⟨B12, 0, none⟩)), (13, .int .i64 j)] a ∧ MemOk X w0 [(1, .box B3 33 [.int .i64 vo, .int .i64 bl, .int .i64 sz, .int .i64 pe, .slice pp place.length cp, .int .i64 to, .int .i64 ne, .bool hi, .int .i64 fl, .slice pn nn9 cn9, .slice (some ⟨b237, o237, none⟩) (ws.map wrD).length cw]), (6, .box B6 90 [.int .i64 0, .int .i64 0, .int .i64 0, .int .i64 0, .int .i64 0, .int .i64 0, .int .i64 0, .slice none 0 0]), (9, .box B9 90 [.int .i64 vo, .int .i64 ch, .int .i64 cnt, .int .i64 sz, .int .i64 mk, .int .i64 tq, .int .i64 (min fl tq), .slice p ((pushL fi cnt (W2.take k)).map wrD).length c]), (10, .row (.slice p ((pushL fi cnt (W2.take k)).map wrD).length c) 109 2 ((pushL fi cnt (W2.take k)).map wrD)), (3, .dat (.slice (some ⟨b237, o237, none⟩) (ws.map wrD).length cw) (.l 2 (ws.map wrD))), (12, .box B12 109 [.int .i64 xs, .slice px (xl.map itD).length cx9]), (13, .dat (.slice px (xl.map itD).length cx9) (.l 2 (xl.map itD))), (14, .row (.slice p2 ((itemsL fi cnt (xl.take j)).map itD).length c2) 111 2 ((itemsL fi cnt (xl.take j)).map itD))] w) (xl.length) ?_ ?_
  · have mz := m243.nilR 14 111 2
    exact ⟨0, _, _, _, _, _, _, _, _, _, _, Nat.zero_le _, rfl, Hz.only [1, 3, 6, 8, 9, 10, 11, 12, 13], mz.ren [(1, 1), (6, 6), (9, 9), (10, 10), (3, 3), (12, 102), (13, 101), (14, 14)] (by decide)⟩
  clear Hz m243
  rintro g Az w246 ⟨j, B3, B6, B9, B12, p, p2, px, c, c2, cx9, hjl, hg2, Hz, m246⟩
  refine wsk fun K22 hK22 => ?_
  refine regS Hz (.move rfl <| .fa 1 rfl U109 <| .lb m246 12 U40 rfl rfl rfl <| .len rfl U40 <| .lss rfl rfl .nil) fun Az Hz => ?_
  refine bc Hz 67 ?_ ?_
  ·
   intro hb252 Hz; try simp only [QQ, Qax] at hb252
   rw [List.length_map] at hb252
   have hj : j < xl.length := by omega
   obtain ⟨⟨xb, xd⟩, hxs⟩ : ∃ e, xl[j]? = some e := ⟨_, List.getElem?_eq_getElem hj⟩
   have hxb := hib2 _ (List.mem_of_getElem? hxs)
   dsimp only at hxb
   have hed := hok2.2 _ (List.mem_of_getElem? hxs)
   dsimp only at hed
   refine wct Hz ?_
   refine zss (hK22 _ _ ?_)
   refine wsk fun K23 hK23 => ?_
   refine wp_block ?_
   refine wsk fun K24 hK24 => ?_
   obtain ⟨b253, o253, vs253, hp253, hR253, ho253, m253⟩ := m246.openR (i := 13) rfl (j) (r := [.v (.int .i64 xb), .ns .u8 xd]) (itD_get hxs) 200 rfl
   revert Hz
   cases hp253; clear m246 ho253
   rcases hR253 with _ | ⟨hd253_0, _ | ⟨hd253_1, _ | _⟩⟩
   obtain rfl := hd253_0.v_out
   clear hd253_0
   obtain ⟨p254, c254, hv254, hc254⟩ := hd253_1.ns_shape; subst hv254
   intro Hz
   have m254 := m253.dat 201 rfl (hd253_1.cast (fun _ h => (free_add rfl h))); clear m253 hd253_1
   have m255 := m254.oz [1, 3, 6, 9, 10, 12, 13, 14, 200, 201]
   refine region_p 12 (B := [(1, _), (3, _), (6, _), (9, _), (10, _), (12, _), (13, _), (14, _), (200, _), (201, _)]) (m255.to ⟨il, il, il, il, il, il, il, il, il, il, trivial⟩) m255 (by kernel_rfl) (fun w256 hP256 m256 => ?_); clear m255
   refine goR hP256 [0, 1, 2, 3, 4, 5, 6, 7, 8, 9, 10, 11] [1, 5, 8] 12 0 4095 Hz (m256.to ⟨il, il, il, il, il, il, il, il, il, il, trivial⟩) (.fa 1 rfl U109 <| .lb hh 12 U40 rfl rfl rfl <| .move rfl <| .p (fun _ _ h_ => y_idx h_ rfl rfl U40 fct16 (j) rfl (by simpa using hj)) <| .fieldAddrQ 0 rfl U111 rfl (s := 0) (by kernel_rfl) rfl <| .loadC0 hh (i := 200) rfl rfl U3 rfl <| .move rfl <| .fa 3 rfl U33 <| .lb hh 1 U3 rfl rfl rfl <| .mul rfl rfl (r := fi) (by rw [hfi]; exact IntWalk.i64_in _ (by omega)) <| .sub rfl rfl (r := xb - fi) (IntWalk.i64_in _ (by omega)) <| .assign rfl .nil) fun Az Hz => ?_
   refine wpAnyE_done (by kernel_rfl) ?_ _
   refine hK24 _ _ ?_
   replace Hz := Hz.oz [1, 3, 6, 8, 9, 10, 11, 12, 13, 14]
   refine zsr fun K25 hK25 => ?_
   refine goCh Hz (.move rfl <| .geq rfl rfl <| .move rfl .nil) fun Az Hz => ?_
   refine bc Hz 83 ?_ ?_
   ·
    intro hb276 Hz; try simp only [QQ, Qax] at hb276
    refine gz hK25 Hz (.moveZ rfl <| .moveZ rfl <| .lssZ rfl rfl <| .pickT rfl rfl <| .nil) fun Az Hz => ?_
    refine bc Hz 87 ?_ ?_
    ·
     intro hb281 Hz; try simp only [QQ, Qax] at hb281
     refine wct Hz ?_
     refine wp_region_lit ?_
     refine goCh Hz (.move rfl <| .move rfl <| .fa 1 rfl U109 <| .lb m256 12 U40 rfl rfl rfl <| .move rfl .nil) fun Az Hz => ?_
     obtain ⟨b287, o287, vs287, hp287, hR287, ho287, m287⟩ := m256.openR (i := 13) rfl (j) (r := [.v (.int .i64 xb), .ns .u8 xd]) (itD_get hxs) 202 rfl
     revert Hz
     cases hp287; clear m256 ho287
     rcases hR287 with _ | ⟨hd287_0, _ | ⟨hd287_1, _ | _⟩⟩
     obtain rfl := hd287_0.v_out
     clear hd287_0
     obtain ⟨p288, c288, hv288, hc288⟩ := hd287_1.ns_shape; subst hv288
     intro Hz
     have m288 := m287.dat 203 rfl (hd287_1.cast (fun _ h => (free_add rfl h))); clear m287 hd287_1
     refine goCh Hz (.c rfl (fun _ h_ => y_idx h_ rfl rfl U40 fct16 (j) rfl (by simpa using hj)) <| .fieldAddrQ 1 rfl U111 rfl (s := 0) (by kernel_rfl) rfl <| .loadC1 m288 (i := 202) (q := 1) rfl rfl rfl U22 rfl <| .build rfl fct25 fl111rpu rfl (by dsimp only [setL, List.set] <;> rfl) .nil) fun Az Hz => ?_
     refine plz (e_litR Hz m288 204 (mm := 2) rfl (.cons rfl rfl (.cons (.v _) (.cons (m288.rd (i := 203) rfl) .nil)) .nil) U40 fct24 rfl rfl rfl rfl rfl fun g293 Az w294 Hz m294 => ?_)
     have m296 := m294.freezeR 204 rfl
     refine plz (e_appR Hz m296 14 rfl rfl rfl (m296.rd (i := 204) rfl) U40 fct24 rfl rfl (by decide) (by have := itemsL_len fi cnt (xl.take j); rw [List.length_take] at this; simp; omega) rfl fun p295 c295 Az w297 Hz m297 => ?_)
     refine gz hK23 Hz (.assign rfl .nil) fun Az Hz => ?_
     replace Hz := Hz.oz [1, 3, 6, 8, 9, 10, 11, 12, 13, 83, 87, 90]
     refine wp_region_lit ?_
     refine goCh Hz (.move rfl <| .inc (j + 1) <| .assign rfl .nil) fun Az Hz => ?_
     refine wpList_nil ?_
     show ∃ n', n' < _ ∧ _
     have hE : (itemsL fi cnt (xl.take j)).map itD ++ [[D.v (.int .i64 (xb - fi)), .ns .u8 xd]] = (itemsL fi cnt (xl.take (j + 1))).map itD := by rw [itemsL_yes hxs (by omega), List.map_append]; rfl
     rw [hE] at m297 Hz
     exact ⟨xl.length - (j + 1), by omega, j + 1, _, _, _, _, _, _, _, _, _, _, by omega, rfl, Hz.only [1, 3, 6, 8, 9, 10, 11, 12, 13], m297.ren [(1, 1), (6, 6), (9, 9), (10, 10), (3, 3), (12, 12), (13, 13), (14, 14)] (by decide)⟩
    intro hb281 Hz; try simp only [QQ, Qax] at hb281
    refine wcf Hz ?_
    refine zss (hK23 _ _ ?_)
    replace Hz := Hz.oz [1, 3, 6, 8, 9, 10, 11, 12, 13, 83, 87]
    refine wp_region_lit ?_
    refine goCh Hz (.move rfl <| .inc (j + 1) <| .assign rfl .nil) fun Az Hz => ?_
    refine wpList_nil ?_
    show ∃ n', n' < _ ∧ _
    have hE : (itemsL fi cnt (xl.take j)) = itemsL fi cnt (xl.take (j + 1)) := (itemsL_no hxs (by omega)).symm
    rw [hE] at m256 Hz
    exact ⟨xl.length - (j + 1), by omega, j + 1, _, _, _, _, _, _, _, _, _, _, by omega, rfl, Hz.only [1, 3, 6, 8, 9, 10, 11, 12, 13], m256.ren [(1, 1), (6, 6), (9, 9), (10, 10), (3, 3), (12, 12), (13, 13), (14, 14)] (by decide)⟩
   intro hb276 Hz; try simp only [QQ, Qax] at hb276
   refine gz hK25 Hz (.sk <| .sk <| .sk <| .pickF rfl rfl <| .nil) fun Az Hz => ?_
   refine wcf Hz ?_
   refine zss (hK23 _ _ ?_)
   replace Hz := Hz.oz [1, 3, 6, 8, 9, 10, 11, 12, 13, 83, 87]
   refine wp_region_lit ?_
   refine goCh Hz (.move rfl <| .inc (j + 1) <| .assign rfl .nil) fun Az Hz => ?_
   refine wpList_nil ?_
   show ∃ n', n' < _ ∧ _
   have hE : (itemsL fi cnt (xl.take j)) = itemsL fi cnt (xl.take (j + 1)) := (itemsL_no hxs (by omega)).symm
   rw [hE] at m256 Hz
   exact ⟨xl.length - (j + 1), by omega, j + 1, _, _, _, _, _, _, _, _, _, _, by omega, rfl, Hz.only [1, 3, 6, 8, 9, 10, 11, 12, 13], m256.ren [(1, 1), (6, 6), (9, 9), (10, 10), (3, 3), (12, 12), (13, 13), (14, 14)] (by decide)⟩
  intro hb252 Hz; try simp only [QQ, Qax] at hb252
  rw [List.length_map] at hb252
  revert Hz
  obtain rfl : j = xl.length := by omega
  intro Hz
  rw [List.take_length] at m246 Hz
  refine wcf Hz ?_
  refine wp_exit ?_
  refine hK21 _ _ ?_
  refine regS Hz (.move rfl <| .len rfl U40 <| .gtr rfl rfl .nil) fun Az Hz => ?_
  refine bc Hz 101 ?_ ?_
  ·
   intro hb318 Hz; try simp only [QQ, Qax] at hb318
   refine wct Hz ?_
   replace Hz := Hz.oz [1, 3, 6, 8, 9, 10, 11, 12, 13, 101]
   refine wp_region_lit ?_
   refine goCh Hz (.fa 7 rfl U90 <| .lb m246 9 U31 rfl rfl rfl <| .fa 0 rfl U109 <| .lb m246 12 U2 rfl rfl rfl <| .move rfl <| .build rfl fct18 fl109rpu rfl (by dsimp only [setL, List.set] <;> rfl) .nil) fun Az Hz => ?_
   have m327 := m246.freezeR 14 rfl
   refine plz (e_litR Hz m327 200 (mm := 2) rfl (.cons rfl rfl (.cons (.v _) (.cons (m327.rd (i := 14) rfl) .nil)) .nil) U31 fct26 rfl rfl rfl rfl rfl fun g326 Az w328 Hz m328 => ?_)
   have m330 := m328.freezeR 200 rfl
   refine plz (e_appR Hz m330 10 rfl rfl rfl (m330.rd (i := 200) rfl) U31 fct26 rfl rfl (by decide) (by have := push_len fi cnt (W2.take k); rw [List.length_take] at this; simp; omega) rfl fun p329 c329 Az w331 Hz m331 => ?_)
   refine goCh Hz (.fieldAddr (off := 7) rfl U90 rfl (s := 0) (by kernel_rfl) rfl .nil) fun Az Hz => ?_
   refine plz (st1 Hz m331 9 fct27 fun w333 m333 _ => ?_)
   refine znl (hK19 _ _ ?_)
   replace Hz := Hz.oz [1, 3, 6, 8, 9, 10, 11, 12, 13, 101]
   refine wp_region_lit ?_
   refine goCh Hz (.move rfl <| .add rfl rfl (r := ((mk + (k + 1) : Nat) : Int)) (by rw [IntWalk.i64_in _ (by omega)]; omega) <| .assign rfl .nil) fun Az Hz => ?_
   refine wpList_nil ?_
   show ∃ n', n' < _ ∧ _
   have hE : (pushL fi cnt (W2.take k)).map wrD ++ [[D.v (.int .i64 xs), .l 2 ((itemsL fi cnt xl).map itD)]] = (pushL fi cnt (W2.take (k + 1))).map wrD := by rw [push_yes hes2 (by have h9 := hb318; rw [List.length_map] at h9; omega), List.map_append]; rfl
   rw [hE] at m333
   exact ⟨tq - mk - (k + 1), by omega, k + 1, _, _, _, _, _, by omega, rfl, Hz.only [1, 3, 6, 8, 9, 10], m333.ren [(1, 1), (6, 6), (9, 9), (10, 10), (3, 3)] (by decide)⟩
  intro hb318 Hz; try simp only [QQ, Qax] at hb318
  refine wcf Hz ?_
  refine zss (hK19 _ _ ?_)
  replace Hz := Hz.oz [1, 3, 6, 8, 9, 10, 11, 12, 13, 101]
  refine wp_region_lit ?_
  refine goCh Hz (.move rfl <| .add rfl rfl (r := ((mk + (k + 1) : Nat) : Int)) (by rw [IntWalk.i64_in _ (by omega)]; omega) <| .assign rfl .nil) fun Az Hz => ?_
  refine wpList_nil ?_
  show ∃ n', n' < _ ∧ _
  have hE : (pushL fi cnt (W2.take k)) = pushL fi cnt (W2.take (k + 1)) := (push_no hes2 (by have h9 := hb318; rw [List.length_map] at h9; omega)).symm
  rw [hE] at m246
  exact ⟨tq - mk - (k + 1), by omega, k + 1, _, _, _, _, _, by omega, rfl, Hz.only [1, 3, 6, 8, 9, 10], m246.ren [(1, 1), (6, 6), (9, 9), (10, 10), (3, 3)] (by decide)⟩
 intro hb228 Hz; try simp only [QQ, Qax] at hb228
 revert Hz
 obtain rfl : k = W2.length := by omega
 intro Hz
 refine wcf Hz ?_
 refine wp_exit ?_
 refine hK17 _ _ ?_
 refine zsr fun K26 hK26 => ?_
 refine goCh Hz (.loadBR m223 (i := 9) rfl rfl U90 rfl fct14 (by simp) (by dsimp only [List.drop, List.take] <;> rfl) .nil) fun Az Hz => ?_
 refine plz (stw Hz m223 6 fct14 fun w344 m344 _ => ?_)
 refine gz hK26 Hz (.assign rfl .nil) fun Az Hz => ?_
 refine rtd (retCT (fn := Tryz.f34) Hz m344 (i := 6) rfl rfl rfl rfl U90 rfl fct14 ?_)
 rw [List.take_length] at *
 have m346 := m344.freezeR 10 rfl
 rw [hW2]
 exact ⟨_, _, rfl, m346.ren [(3, 3), (9, 10)] (by decide)⟩
end
section
abbrev Its := List (Int × List Int)
abbrev Hs := List (List Ver)
def hitD (b : Int) (l : Its) : Option (List Int) := (l.find? fun x => decide (x.1 = b)).map (·.2)
def blkH (W : List PWr) (b : Int) : List Ver := W.filterMap fun e => (hitD b e.2).map fun d => (e.1, d)
def Unl (l : Its) : Prop := l.Pairwise fun x y => x.1 ≠ y.1
def addW (s : Int) (H : Hs) (l : Its) : Hs := l.foldl (fun H x => H.set x.1.toNat (addF (H.getD x.1.toNat []) s x.2)) H
def applyW (m : Int) (H : Hs) (W : List PWr) : Hs := W.foldl (fun H e => if e.1 ≤ m then H else addW e.1 H e.2) H
theorem hit_cons (b : Int) (x : Int × List Int) (l : Its) : hitD b (x :: l) = if x.1 = b then some x.2 else hitD b l := by
 unfold hitD
 rw [List.find?_cons]
 by_cases h : x.1 = b
 · rw [if_pos h]; simp [h]
 rw [if_neg h]; simp [h]
theorem hit_none {b : Int} : ∀ {l : Its}, (∀ x ∈ l, x.1 ≠ b) → hitD b l = none
 | [], _ => rfl
 | x :: l, h => by rw [hit_cons, if_neg (h x (by simp)), hit_none (fun y hy => h y (by simp [hy]))]
theorem blk_app (A B : List PWr) (b : Int) : blkH (A ++ B) b = blkH A b ++ blkH B b := List.filterMap_append
theorem blk_cons (e : PWr) (W : List PWr) (b : Int) : blkH (e :: W) b = ((hitD b e.2).map fun d => (e.1, d)).toList ++ blkH W b := by
 unfold blkH
 rw [List.filterMap_cons]
 cases hitD b e.2 <;> rfl
theorem getD_setH {H : Hs} {i j : Nat} (h : i ≠ j) (x : List Ver) : (H.set i x).getD j [] = H.getD j [] := by
 rw [List.getD, List.getElem?_set_ne h]; rfl
theorem getD_setS {H : Hs} {i : Nat} (h : i < H.length) (x : List Ver) : (H.set i x).getD i [] = x := by
 rw [List.getD, List.getElem?_set_self h]; rfl
theorem addW_len (s : Int) : ∀ (l : Its) (H : Hs), (addW s H l).length = H.length
 | [], H => rfl
 | x :: l, H => by
   show (addW s (H.set x.1.toNat _) l).length = _
   rw [addW_len s l, List.length_set]
theorem applyW_len (m : Int) : ∀ (W : List PWr) (H : Hs), (applyW m H W).length = H.length
 | [], H => rfl
 | e :: W, H => by
   show (applyW m (if e.1 ≤ m then H else addW e.1 H e.2) W).length = _
   rw [applyW_len m W]
   split
   · rfl
   rw [addW_len]
theorem addW_at {s : Int} (hs : 1 ≤ s ∧ s ≤ 1099511627776) : ∀ {l : Its} {H : Hs}, Unl l → (∀ x ∈ l, 0 ≤ x.1 ∧ x.1 < (H.length : Int)) → (∀ x ∈ l, ∀ v ∈ H.getD x.1.toNat [], v.1 < s) → ∀ i : Nat, (addW s H l).getD i [] = H.getD i [] ++ ((hitD (i : Int) l).map fun d => (s, d)).toList
 | [], H, _, _, _, i => by
   show H.getD i [] = _
   simp [hitD]
 | x :: l, H, hu, hb, hv, i => by
   show (addW s (H.set x.1.toNat (addF (H.getD x.1.toNat []) s x.2)) l).getD i [] = _
   have hx := hb x (by simp)
   have hu' := List.pairwise_cons.1 hu
   rw [add_yes hs (hv x (by simp))]
   have ih := addW_at hs (l := l) (H := H.set x.1.toNat (H.getD x.1.toNat [] ++ [(s, x.2)])) hu'.2 (fun y hy => by rw [List.length_set]; exact hb y (by simp [hy])) (fun y hy v h9 => by
     have h1 := hu'.1 y hy
     have h2 := hb y (by simp [hy])
     rw [getD_setH (by omega)] at h9
     exact hv y (by simp [hy]) v h9) i
   rw [ih, hit_cons]
   by_cases h : x.1 = (i : Int)
   · rw [if_pos h, hit_none (fun y hy => by rw [← h]; exact fun e => hu'.1 y hy e.symm)]
     rw [show x.1.toNat = i by omega, getD_setS (by omega)]
     simp
   rw [if_neg h, getD_setH (by omega)]
theorem applyW_at {m : Int} : ∀ {W : List PWr} {H : Hs}, W.Pairwise (fun a b => a.1 < b.1) → (∀ e ∈ W, (1 ≤ e.1 ∧ e.1 ≤ 1099511627776) ∧ Unl e.2 ∧ ∀ x ∈ e.2, 0 ≤ x.1 ∧ x.1 < (H.length : Int)) → (∀ i : Nat, ∀ v ∈ H.getD i [], ∀ e ∈ W, m < e.1 → v.1 < e.1) → ∀ i : Nat, (applyW m H W).getD i [] = H.getD i [] ++ blkH (W.filter fun e => decide (m < e.1)) (i : Int)
 | [], H, _, _, _, i => by
   show H.getD i [] = _
   simp [blkH]
 | e :: W, H, hp, ha, hv, i => by
   show (applyW m (if e.1 ≤ m then H else addW e.1 H e.2) W).getD i [] = _
   have hp' := List.pairwise_cons.1 hp
   obtain ⟨a1, a2, a3⟩ := ha e (by simp)
   by_cases hm : e.1 ≤ m
   · rw [if_pos hm, applyW_at hp'.2 (fun x hx => ha x (by simp [hx])) (fun j v h9 x hx => hv j v h9 x (by simp [hx])) i, List.filter_cons_of_neg (by simpa using hm)]
   rw [if_neg hm, List.filter_cons_of_pos (by simpa using hm), blk_cons]
   have hat := addW_at a1 (l := e.2) (H := H) a2 a3 (fun x hx v h9 => hv _ v h9 e (by simp) (by omega))
   rw [applyW_at hp'.2 (fun x hx => by rw [addW_len]; exact ha x (by simp [hx])) (fun j v h9 x hx h8 => by
     rw [hat j] at h9
     rcases List.mem_append.1 h9 with h9 | h9
     · exact hv j v h9 x (by simp [hx]) h8
     cases hh : hitD (j : Int) e.2 with
     | none => rw [hh] at h9; simp at h9
     | some d =>
       rw [hh] at h9
       simp at h9
       rw [h9]
       exact hp'.1 x hx) i, hat i, List.append_assoc]
theorem hit_items {fi cnt : Int} {i : Nat} (hi : (i : Int) < cnt) : ∀ {l : Its}, hitD (i : Int) (itemsL fi cnt l) = hitD (fi + i) l
 | [] => rfl
 | x :: l => by
   have ih := hit_items (fi := fi) (cnt := cnt) hi (l := l)
   unfold itemsL at ih ⊢
   rw [hit_cons]
   by_cases h : fi ≤ x.1 ∧ x.1 ≤ fi + cnt - 1
   · rw [List.filter_cons_of_pos (by simpa using h), List.map_cons, hit_cons, ih]
     by_cases h2 : x.1 = fi + i
     · rw [if_pos h2, if_pos (by show x.1 - fi = i; omega)]
     rw [if_neg h2, if_neg (by show ¬ x.1 - fi = i; omega)]
   rw [List.filter_cons_of_neg (by simpa using h), ih, if_neg (by omega)]
theorem blk_push {fi cnt : Int} {i : Nat} (hi : (i : Int) < cnt) : ∀ {W : List PWr}, blkH (pushL fi cnt W) (i : Int) = blkH W (fi + i)
 | [] => rfl
 | e :: W => by
   have ih := blk_push (fi := fi) (cnt := cnt) hi (W := W)
   unfold pushL at ih ⊢
   rw [List.map_cons, blk_cons]
   by_cases h : 0 < (itemsL fi cnt e.2).length
   · rw [List.filter_cons_of_pos (by simpa using h), blk_cons, ih, hit_items hi]
   rw [List.filter_cons_of_neg (by simpa using h), ih]
   have hn : itemsL fi cnt e.2 = [] := List.length_eq_zero_iff.1 (by omega)
   rw [← hit_items (fi := fi) hi, hn]
   rfl
end
section
theorem itemsR_unl {bl sz : Int} {l : Its} (h : ItemsR bl sz l) : Unl l := by
 unfold Unl
 rw [List.pairwise_iff_getElem]
 intro i j hi hj hij e
 have h1 := (h.2.2 j hj).2.2.2
 refine h1 ⟨l[i], ?_, ?_⟩
 · rw [List.mem_iff_getElem]
   exact ⟨i, by rw [List.length_take]; omega, by rw [List.getElem_take]⟩
 rw [List.getD, List.getElem?_eq_getElem hj]; exact e
theorem ws_at {bl sz : Int} {ws : List PWr} (h : WrPre bl sz ws ws.length) {j : Nat} (hj : j < ws.length) : (ws[j]).1 = j + 1 ∧ ItemsR bl sz (ws[j]).2 := by
 have := h j hj
 rw [List.getD, List.getElem?_eq_getElem hj] at this
 exact this
theorem ws_mem {bl sz : Int} {ws : List PWr} (h : WrPre bl sz ws ws.length) {e : PWr} (he : e ∈ ws) : ItemsR bl sz e.2 ∧ 1 ≤ e.1 ∧ e.1 ≤ ws.length := by
 obtain ⟨j, hj, rfl⟩ := List.getElem_of_mem he
 have := ws_at h hj
 exact ⟨this.2, by omega, by omega⟩
theorem ws_take {bl sz : Int} {ws : List PWr} (h : WrPre bl sz ws ws.length) {t : Nat} {e : PWr} (he : e ∈ ws.take t) : 1 ≤ e.1 ∧ e.1 ≤ t := by
 obtain ⟨j, hj, rfl⟩ := List.getElem_of_mem he
 rw [List.length_take] at hj
 have := ws_at h (j := j) (by omega)
 rw [List.getElem_take]
 omega
theorem ws_drop {bl sz : Int} {ws : List PWr} (h : WrPre bl sz ws ws.length) {tq m : Nat} {e : PWr} (he : e ∈ (ws.take tq).drop m) : (m : Int) < e.1 := by
 obtain ⟨j, hj, rfl⟩ := List.getElem_of_mem he
 rw [List.length_drop, List.length_take] at hj
 have := ws_at h (j := m + j) (by omega)
 rw [List.getElem_drop, List.getElem_take]
 omega
theorem ws_rise {bl sz : Int} {ws : List PWr} (h : WrPre bl sz ws ws.length) : ws.Pairwise fun a b => a.1 < b.1 := by
 rw [List.pairwise_iff_getElem]
 intro i j hi hj hij
 have h1 := ws_at h hi
 have h2 := ws_at h hj
 omega
theorem ws_filter {bl sz : Int} {ws : List PWr} (h : WrPre bl sz ws ws.length) {mk m tq : Nat} (hm : mk ≤ m) : ((ws.take tq).drop mk).filter (fun e => decide ((m : Int) < e.1)) = (ws.take tq).drop m := by
 have e : (ws.take tq).drop mk = ((ws.take tq).drop mk).take (m - mk) ++ (ws.take tq).drop m := by
   have h1 := (List.take_append_drop (m - mk) ((ws.take tq).drop mk)).symm
   rw [List.drop_drop, show mk + (m - mk) = m by omega] at h1
   exact h1
 rw [e, List.filter_append, List.filter_eq_nil_iff.2 (fun x hx => ?_), List.filter_eq_self.2 (fun x hx => by simpa using ws_drop h hx), List.nil_append]
 obtain ⟨j, hj, rfl⟩ := List.getElem_of_mem hx
 rw [List.length_take, List.length_drop, List.length_take] at hj
 have h2 := ws_at h (j := mk + j) (by omega)
 rw [List.getElem_take, List.getElem_drop, List.getElem_take]
 simp
 omega
theorem push_filter {fi cnt : Int} {m : Int} : ∀ {W : List PWr}, (pushL fi cnt W).filter (fun e => decide (m < e.1)) = pushL fi cnt (W.filter fun e => decide (m < e.1))
 | [] => rfl
 | e :: W => by
   have ih := push_filter (fi := fi) (cnt := cnt) (m := m) (W := W)
   unfold pushL at ih ⊢
   rw [List.map_cons]
   by_cases h : 0 < (itemsL fi cnt e.2).length
   · rw [List.filter_cons_of_pos (by simpa using h)]
     by_cases h2 : m < e.1
     · rw [List.filter_cons_of_pos (by simpa using h2), List.filter_cons_of_pos (by simpa using h2), List.map_cons, List.filter_cons_of_pos (by simpa using h), ih]
     rw [List.filter_cons_of_neg (by simpa using h2), List.filter_cons_of_neg (by simpa using h2), ih]
   rw [List.filter_cons_of_neg (by simpa using h)]
   by_cases h2 : m < e.1
   · rw [List.filter_cons_of_pos (by simpa using h2), List.map_cons, List.filter_cons_of_neg (by simpa using h), ih]
   rw [List.filter_cons_of_neg (by simpa using h2), ih]
theorem push_mem {fi cnt : Int} {W : List PWr} {e : PWr} (he : e ∈ pushL fi cnt W) : ∃ w ∈ W, e = (w.1, itemsL fi cnt w.2) := by
 unfold pushL at he
 obtain ⟨w, hw, rfl⟩ := List.mem_map.1 (List.mem_filter.1 he).1
 exact ⟨w, hw, rfl⟩
theorem push_rise {fi cnt : Int} {W : List PWr} (h : W.Pairwise fun a b => a.1 < b.1) : (pushL fi cnt W).Pairwise fun a b => a.1 < b.1 := by
 unfold pushL
 refine List.Pairwise.filter _ ?_
 rw [List.pairwise_map]
 exact h
theorem items_unl {fi cnt : Int} {l : Its} (h : Unl l) : Unl (itemsL fi cnt l) := by
 unfold itemsL Unl
 rw [List.pairwise_map]
 exact (List.Pairwise.filter _ h).imp fun {a b} hab => by
   show a.1 - fi ≠ b.1 - fi
   intro e; exact hab (by omega)
theorem items_in {fi cnt : Int} {l : Its} {x : Int × List Int} (h : x ∈ itemsL fi cnt l) : 0 ≤ x.1 ∧ x.1 < cnt := by
 unfold itemsL at h
 obtain ⟨y, hy, rfl⟩ := List.mem_map.1 h
 have := (List.mem_filter.1 hy).2
 simp at this
 constructor
 · show 0 ≤ y.1 - fi; omega
 show y.1 - fi < cnt; omega
def chuH (ws : List PWr) (fi : Int) (cnt m : Nat) (fl : Int) : Hs := (List.range cnt).map fun (i : Nat) => pruneF (blkH (ws.take m) (fi + (i : Int))) fl
theorem chuH_len (ws : List PWr) (fi : Int) (cnt m : Nat) (fl : Int) : (chuH ws fi cnt m fl).length = cnt := by unfold chuH; rw [List.length_map, List.length_range]
theorem chuH_at {ws : List PWr} {fi : Int} {cnt m : Nat} {fl : Int} {i : Nat} (hi : i < cnt) : (chuH ws fi cnt m fl).getD i [] = pruneF (blkH (ws.take m) (fi + (i : Int))) fl := by
 unfold chuH
 rw [List.getD, List.getElem?_map, List.getElem?_range hi]; rfl
theorem blk_mem {W : List PWr} {b : Int} {v : Ver} (h : v ∈ blkH W b) : ∃ e ∈ W, v.1 = e.1 ∧ ∃ x ∈ e.2, v.2 = x.2 := by
 unfold blkH at h
 obtain ⟨e, he, h2⟩ := List.mem_filterMap.1 h
 obtain ⟨d, hd, rfl⟩ := Option.map_eq_some_iff.1 h2
 unfold hitD at hd
 obtain ⟨x, hx, rfl⟩ := Option.map_eq_some_iff.1 hd
 exact ⟨e, he, rfl, x, List.mem_of_find?_eq_some hx, rfl⟩
theorem blk_rise {W : List PWr} {b : Int} (h : W.Pairwise fun a b => a.1 < b.1) : Rise (blkH W b) := by
 induction W with
 | nil => exact List.Pairwise.nil
 | cons e W ih =>
   have h1 := List.pairwise_cons.1 h
   rw [blk_cons]
   cases hitD b e.2 with
   | none => exact ih h1.2
   | some d =>
     refine List.pairwise_cons.2 ⟨fun v hv => ?_, ih h1.2⟩
     obtain ⟨e2, he2, h2, -⟩ := blk_mem hv
     have := h1.1 e2 he2
     show e.1 < v.1
     omega
theorem mem_prune {h : List Ver} {f : Int} {v : Ver} (hv : v ∈ pruneF h f) : v ∈ h := List.mem_of_mem_drop hv
theorem chu_apply {bl sz : Int} {ws : List PWr} (hw : WrPre bl sz ws ws.length) (hwl : ws.length ≤ 1000000) {fi fl fl2 : Int} {cnt mk m tq : Nat} (hmk : mk ≤ m) (hm : m ≤ ws.length) (hfl : fl ≤ fl2) :
   (applyW m (chuH ws fi cnt m fl) (pushL fi cnt ((ws.take tq).drop mk))).map (fun h => pruneF h fl2) = chuH ws fi cnt (max m tq) fl2 := by
 have hsub : ∀ w ∈ (ws.take tq).drop mk, w ∈ ws := fun w h => List.mem_of_mem_take (List.mem_of_mem_drop h)
 have hR : ((ws.take tq).drop mk).Pairwise fun a b => a.1 < b.1 := ((ws_rise hw).take).drop
 have hA := applyW_at (m := m) (W := pushL fi cnt ((ws.take tq).drop mk)) (H := chuH ws fi cnt m fl) (push_rise hR) (fun e he => by
   obtain ⟨w, h1, rfl⟩ := push_mem he
   have h2 := ws_mem hw (hsub w h1)
   refine ⟨⟨h2.2.1, by have := h2.2.2; show w.1 ≤ _; omega⟩, items_unl (itemsR_unl h2.1), fun x hx => ?_⟩
   rw [chuH_len]
   exact items_in hx) (fun i v hv e he h9 => by
   rcases Nat.lt_or_ge i cnt with hi | hi
   · rw [chuH_at hi] at hv
     obtain ⟨e2, he2, h3, -⟩ := blk_mem (mem_prune hv)
     have := ws_take hw he2
     omega
   rw [List.getD, List.getElem?_eq_none (by rw [chuH_len]; exact hi)] at hv
   exact absurd hv (by simp))
 apply List.ext_getElem
 · rw [List.length_map, applyW_len, chuH_len, chuH_len]
 intro i h1 h2
 rw [chuH_len] at h2
 have hi : i < (applyW m (chuH ws fi cnt m fl) (pushL fi cnt ((ws.take tq).drop mk))).length := by rw [applyW_len, chuH_len]; exact h2
 have e1 := hA i
 rw [List.getD, List.getElem?_eq_getElem hi] at e1
 have e2 := chuH_at (ws := ws) (fi := fi) (m := max m tq) (fl := fl2) h2
 rw [List.getD, List.getElem?_eq_getElem (by rw [chuH_len]; exact h2)] at e2
 rw [List.getElem_map]
 simp only [Option.getD_some] at e1 e2
 rw [e1, e2, chuH_at h2, push_filter, ws_filter hw hmk, blk_push (by omega), prune_prune hfl, ← blk_app]
 congr 2
 rcases Nat.le_total m tq with h | h
 · rw [Nat.max_eq_right h]
   have h8 := List.take_append_drop m (ws.take tq)
   rw [List.take_take, Nat.min_eq_left h] at h8
   exact h8
 rw [Nat.max_eq_left h, List.drop_eq_nil_of_le (by rw [List.length_take]; omega), List.append_nil]
theorem chuH_zero (ws : List PWr) (fi : Int) (cnt : Nat) (fl : Int) : chuH ws fi cnt 0 fl = List.replicate cnt [] := by
 apply List.ext_getElem
 · rw [chuH_len, List.length_replicate]
 intro i h1 h2
 have h3 := chuH_at (ws := ws) (fi := fi) (m := 0) (fl := fl) (i := i) (by rw [chuH_len] at h1; exact h1)
 rw [List.getD, List.getElem?_eq_getElem h1] at h3
 rw [List.getElem_replicate]
 exact h3
theorem chu_right {bl sz : Int} {ws : List PWr} (hw : WrPre bl sz ws ws.length) {fi fl : Int} {cnt m : Nat} {h : List Ver} (hh : h ∈ chuH ws fi cnt m fl) : Rise h ∧ (∀ v ∈ h, 1 ≤ v.1 ∧ v.1 ≤ m ∧ (v.2.length : Int) = sz) ∧ pruneF h fl = h ∧ h.length ≤ m := by
 unfold chuH at hh
 obtain ⟨i, -, rfl⟩ := List.mem_map.1 hh
 have hr : Rise (blkH (ws.take m) (fi + (i : Int))) := blk_rise (ws_rise hw).take
 refine ⟨prune_rise hr, fun v hv => ?_, ?_, ?_⟩
 · obtain ⟨e, he, h1, x, hx, h2⟩ := blk_mem (mem_prune hv)
   have h3 := ws_take hw he
   have h4 := (ws_mem hw (List.mem_of_mem_take he)).1
   obtain ⟨j, hj, rfl⟩ := List.getElem_of_mem hx
   have h5 := (h4.2.2 j hj).2.2.1
   rw [List.getD, List.getElem?_eq_getElem hj] at h5
   refine ⟨by omega, by omega, by rw [h2]; exact h5⟩
 · have := prune_prune (h := blkH (ws.take m) (fi + (i : Int))) (n := []) (f := fl) (g := fl) (Int.le_refl _)
   rwa [List.append_nil, List.append_nil] at this
 have h1 : (pruneF (blkH (ws.take m) (fi + (i : Int))) fl).length ≤ (blkH (ws.take m) (fi + (i : Int))).length := by unfold pruneF; rw [List.length_drop]; omega
 have h2 : (blkH (ws.take m) (fi + (i : Int))).length ≤ (ws.take m).length := List.length_filterMap_le _ _
 rw [List.length_take] at h2
 omega
theorem st_items {b : Nat} : ∀ {l : Its} {L : List (List Int)}, Unl l → b < L.length → (l.foldl stStep L).getD b [] = (hitD (b : Int) l).getD (L.getD b [])
 | [], L, _, _ => rfl
 | x :: l, L, hu, hb => by
   have hu' := List.pairwise_cons.1 hu
   have hl : (stStep L x).length = L.length := by unfold stStep; split <;> simp
   show (l.foldl stStep (stStep L x)).getD b [] = _
   rw [st_items hu'.2 (by rw [hl]; exact hb), hit_cons]
   by_cases h : x.1 = (b : Int)
   · rw [if_pos h, hit_none (fun y hy => by rw [← h]; exact fun e => hu'.1 y hy e.symm)]
     unfold stStep
     rw [if_pos (by omega)]
     show (L.set x.1.toNat x.2).getD b [] = x.2
     rw [show x.1.toNat = b by omega, List.getD, List.getElem?_set_self hb]; rfl
   rw [if_neg h]
   congr 1
   unfold stStep
   split
   · rw [List.getD, List.getElem?_set_ne (by omega)]; rfl
   rfl
theorem st_blk {b : Nat} : ∀ {W : List PWr} {L : List (List Int)}, (∀ e ∈ W, Unl e.2) → b < L.length → (W.foldl stW L).getD b [] = (((blkH W (b : Int)).getLast?).map (·.2)).getD (L.getD b [])
 | [], L, _, _ => rfl
 | e :: W, L, hu, hb => by
   show (W.foldl stW (stW L e)).getD b [] = _
   rw [st_blk (fun x hx => hu x (by simp [hx])) (by rw [stW_len]; exact hb), blk_cons]
   have h1 : (stW L e).getD b [] = (hitD (b : Int) e.2).getD (L.getD b []) := st_items (hu e (by simp)) hb
   rw [h1]
   cases hW : blkH W (b : Int) with
   | nil => cases hitD (b : Int) e.2 <;> rfl
   | cons v t => cases hitD (b : Int) e.2 <;> simp [List.getLast?_cons]
theorem chu_read {bl sz : Int} {ws : List PWr} (hw : WrPre bl sz ws ws.length) {fi fl : Int} {fn cnt m t i : Nat} (hfn : fi = fn) (hfl : fl ≤ t) (htm : t ≤ m) (hi : i < cnt) (hb : fn + i < bl.toNat) : (atF ((chuH ws fi cnt m fl).getD i []) t).getD (List.replicate sz.toNat 0) = (stL bl sz ws t).getD (fn + i) [] := by
 have hsplit : blkH (ws.take m) (fi + (i : Int)) = blkH (ws.take t) (fi + (i : Int)) ++ blkH ((ws.take m).drop t) (fi + (i : Int)) := by
   rw [← blk_app]
   have h8 := List.take_append_drop t (ws.take m)
   rw [List.take_take, Nat.min_eq_left htm] at h8
   rw [h8]
 rw [chuH_at hi, at_prune hfl, hsplit, at_app (fun v hv => by
   obtain ⟨e, he, h1, -⟩ := blk_mem hv
   have := ws_drop hw he
   omega), at_last (fun v hv => by
   obtain ⟨e, he, h1, -⟩ := blk_mem hv
   have := ws_take hw he
   omega)]
 have h := st_blk (b := fn + i) (W := ws.take t) (L := stZ bl sz) (fun e he => itemsR_unl (ws_mem hw (List.mem_of_mem_take he)).1) (by unfold stZ; rw [List.length_replicate]; exact hb)
 rw [show ((fn + i : Nat) : Int) = fi + (i : Int) by omega] at h
 rw [h]
 congr 1
 unfold stZ
 rw [List.getD, List.getElem?_replicate, if_pos hb]
 rfl
end
section
section
variable {P : Program} {n : Nat} {T : List (Nat × Value)} {a : Act} {w w0 : World} {X : Cx} {M : Mm} {tt : TypeId} {pos : String} {af : Array Edge} {gd : Option (Nat × Bool)} {K : Act → World → Prop} {Q : Exit → Act → World → Prop}
theorem madeR (n : Nat) : (madeCells (Value.slice none 0 0).cells n).toList = List.replicate n (.slice none 0 0) := by
 unfold madeCells
 apply List.ext_getElem
 · simp
 intro i h1 h2
 simp [Value.cells, Nat.mod_one]
theorem e_makeR (ha : Has n T a) (m : MemOk X w0 M w) (i : Nat) {d : Tmp} {t e : TypeId} {x y : Operand} {kx ky : IntKind} {q q2 : Int} {bytes : Nat} (N mm : Nat) (hx : evT T x = some (.int kx q)) (hy : evT T y = some (.int ky q2)) (hq : q = N) (hq2 : q2 = N) (ht : P.underlying t = some (.slice e)) (hinf : (P.info? e).map (fun i => (i.zero, i.size, i.bytes)) = some (some (.slice none 0 0), 1, bytes)) (hb8 : bytes ≤ 1000) (hN : N ≤ 100000000) (hd : Nat.blt d n = true)
   (h : ∀ p c a' w', Has n ((d, .slice p N c) :: T) a' → MemOk X w0 ((i, .row (.slice p N c) e 1 (List.replicate N [D.l mm []])) :: M) w' → K a' w') : Oper.wp P ⟨some d, .makeSlice t x y, tt, pos, af, gd⟩ a w K Q := by
 obtain ⟨i0, hi, hz0, hz1, hz2⟩ := info_parts hinf
 subst hq; subst hq2
 have hby : N * bytes ≤ 100000000000 := Nat.mul_le_mul hN hb8
 have hby2 : (bytes : Int) * (N : Int) ≤ 281474976710656 := by
   rw [← Int.natCast_mul, Nat.mul_comm]; omega
 have hr := run_make (P := P) w t e i0 _ ht hi hz0 kx ky (N : Int) (N : Int) (by omega) (by omega) (by rw [hz2]; exact hby2) (by omega)
 rw [hz1, Nat.mul_one, Int.toNat_natCast] at hr
 have hrun : (execOp a.eval ⟨some d, .makeSlice t x y, tt, pos, af, gd⟩).run P w = .ok (.value (.slice (some ⟨w.heap.size, 0, none⟩) N N)) (w.alloc (.cells (madeCells (Value.slice none 0 0).cells N) e)) := by
   simp [execOp, ha.ev hx, ha.ev hy, hr]
 show Oper.upon P _ a K Q _
 rw [hrun]
 refine h _ _ _ _ (ha.put hd _) (m.newR i ((Below.refl _ w).alloc (Nat.le_refl _) _) ?_)
 have hfl : (List.replicate N [Value.slice none 0 0]).flatten = List.replicate N (Value.slice none 0 0) := by
   induction N with
   | zero => rfl
   | succ k ih => rw [List.replicate_succ, List.flatten_cons, List.replicate_succ]; simp
 refine ⟨List.replicate N [.slice none 0 0], ?_, by simp, fun c hc => ?_, fun r hr => ?_, fun j q c r x d a1 a2 a3 a4 => ?_⟩
 · rw [List.length_replicate, hfl]
   refine ⟨by simp, .inr ⟨w.heap.size, N, madeCells (Value.slice none 0 0).cells N, rfl, Nat.le_refl _, heap_alloc_new w _, Nat.le_refl _, by unfold maxLen; omega, by rw [size_madeCells, Nat.mul_one], ?_⟩⟩
   rw [madeR, Nat.mul_one, List.take_of_length_le (by simp)]
 · rw [List.eq_of_mem_replicate hc]; exact ⟨rfl, fun x hx => by rw [List.mem_singleton.1 hx]; rfl⟩
 · rw [List.eq_of_mem_replicate hr]; rfl
 have h1 := List.eq_of_mem_replicate (List.mem_of_getElem? a1)
 have h2 := List.eq_of_mem_replicate (List.mem_of_getElem? a2)
 subst h1; subst h2
 have h3 := List.mem_singleton.1 (List.mem_of_getElem? a3)
 have h4 := List.mem_singleton.1 (List.mem_of_getElem? a4)
 subst h3; subst h4
 exact .l0 none 0 mm
end
def ShOk (vo ch cn sz : Int) : Prop := (0 ≤ vo ∧ vo ≤ 7) ∧ (0 ≤ ch ∧ ch ≤ 255) ∧ (1 ≤ cn ∧ cn ≤ 256) ∧ (1 ≤ sz ∧ sz ≤ 32)
def WPre (fr to cn sz : Int) (W : List (Int × List (Int × List Int))) (k : Nat) : Prop := ∀ j, j < k → (if j = 0 then fr else (W.getD (j - 1) w1).1) < (W.getD j w1).1 ∧ (W.getD j w1).1 ≤ to ∧ ItemsR cn sz (W.getD j w1).2
def PuOk (vo ch cn sz fr to fl : Int) (W : List (Int × List (Int × List Int))) : Prop := ShOk vo ch cn sz ∧ (0 ≤ to ∧ to ≤ 1099511627776) ∧ (0 ≤ fr ∧ fr ≤ to) ∧ (0 ≤ fl ∧ fl ≤ to) ∧ W.length ≤ 4 ∧ WPre fr to cn sz W W.length
theorem WPre.snoc {fr to cn sz : Int} {W : List (Int × List (Int × List Int))} {k : Nat} {xs : Int} {xl : List (Int × List Int)} (hp : WPre fr to cn sz W k) (hes : W[k]? = some (xs, xl)) (h1 : (if k = 0 then fr else (W.getD (k - 1) w1).1) < xs) (h2 : xs ≤ to) (h3 : ItemsR cn sz xl) : WPre fr to cn sz W (k + 1) := fun j hj => by
 rcases Nat.lt_or_ge j k with h9 | h9
 · exact hp j h9
 obtain rfl : j = k := by omega
 rw [show W.getD j w1 = (xs, xl) by rw [List.getD, hes]; rfl]
 exact ⟨h1, h2, h3⟩
def HOk (sz mk fl : Int) (h : List Ver) : Prop := RPre h h.length ∧ (pruneF h fl).length = h.length ∧ ∀ j, j < h.length → (h.getD j v0).1 ≤ mk ∧ ((h.getD j v0).2.length : Int) = sz
def ChOk (vo ch cn sz mk fl : Int) (H : List (List Ver)) : Prop := ShOk vo ch cn sz ∧ (0 ≤ mk ∧ mk ≤ 1099511627776) ∧ (0 ≤ fl ∧ fl ≤ mk) ∧ (H.length : Int) = cn ∧ ∀ j, j < H.length → HOk sz mk fl (H.getD j [])
set_option maxRecDepth 100000
set_option maxHeartbeats 4000000
theorem hat_none {X : Cx} (h : List Ver) (t : Int) (p : Option Addr) (nn c : Nat) (w0 : World) (hl : h.length ≤ 1000000) (hok : ∀ v ∈ h, v.2.length ≤ 1000000) (hr : Rise h) (hA : atF h t = none) (m0 : MemOk X w0 [(1, .dat (.slice p nn c) (.l 2 (h.map itD)))] w0) :
   Calls Tryz.prog 97 #[.slice p nn c, .int .i64 t] w0 fun e w' => e = .returned (.tuple #[.slice none 0 0, .bool false]) ∧ MemOk X w0 [(1, .dat (.slice p nn c) (.l 2 (h.map itD)))] w' := by
 refine (hat_x X h t p nn c w0 hl hok hr m0).mono fun e w' h9 => ?_
 rcases h9 with h9 | ⟨d, p9, c9, h1, h2⟩
 · exact h9.2
 rw [hA] at h1; cases h1
theorem hat_some {X : Cx} (h : List Ver) (t : Int) (p : Option Addr) (nn c : Nat) (w0 : World) (hl : h.length ≤ 1000000) (hok : ∀ v ∈ h, v.2.length ≤ 1000000) (hr : Rise h) {d : List Int} (hA : atF h t = some d) (m0 : MemOk X w0 [(1, .dat (.slice p nn c) (.l 2 (h.map itD)))] w0) :
   Calls Tryz.prog 97 #[.slice p nn c, .int .i64 t] w0 fun e w' => ∃ (p9 : Option Addr) (c9 : Nat), e = .returned (.tuple #[.slice p9 d.length c9, .bool true]) ∧ MemOk X w0 [(1, .dat (.slice p nn c) (.l 2 (h.map itD))), (9, .dat (.slice p9 d.length c9) (.ns .u8 d))] w' := by
 refine (hat_x X h t p nn c w0 hl hok hr m0).mono fun e w' h9 => ?_
 rcases h9 with h9 | ⟨d2, p9, c9, h1, h2⟩
 · rw [hA] at h9; cases h9.1
 rw [hA] at h1; injection h1 with h1; subst h1; exact ⟨p9, c9, h2⟩
theorem cread_some (X : Cx) (vo ch cn sz mk fl : Int) (H : List (List Ver)) (i : Nat) (t : Int) (p : Option Addr) (c : Nat) (w0 : World) (hl : H.length ≤ 1000000) (hok : HsOk H) (hri : ∀ h ∈ H, Rise h) (hi : i < H.length) (hcn : (i : Int) < cn) (hsz : 0 ≤ sz ∧ sz ≤ 32) (hf : fl ≤ t) (hm : t ≤ mk) {d : List Int} (hA : atF (H.getD i []) t = some d) (m0 : MemOk X w0 [(1, .dat (.slice p H.length c) (.l 1 (H.map hD)))] w0) :
   Calls Tryz.prog 70 #[.agg #[.int .i64 vo, .int .i64 ch, .int .i64 cn, .int .i64 sz, .int .i64 mk, .int .i64 fl, .slice p H.length c], .int .i64 i, .int .i64 t] w0 fun e w' => ∃ (p9 : Option Addr) (c9 : Nat), e = .returned (.tuple #[.slice p9 ((atF (H.getD i []) t).getD (List.replicate sz.toNat 0)).length c9, .int .i64 0]) ∧ MemOk X w0 [(1, .dat (.slice p H.length c) (.l 1 (H.map hD))), (9, .dat (.slice p9 ((atF (H.getD i []) t).getD (List.replicate sz.toNat 0)).length c9) (.ns .u8 ((atF (H.getD i []) t).getD (List.replicate sz.toNat 0))))] w' := by
 refine ent3 Tryz.func70 rfl Tryz.ntmps70 fun Az Hz => ?_
 obtain ⟨h9, hes⟩ : ∃ e, H[i]? = some e := ⟨_, List.getElem?_eq_getElem hi⟩
 have hx9 : H.getD i [] = h9 := by rw [List.getD, hes]; rfl
 have hh9 := hok _ (List.mem_of_getElem? hes)
 have hrs := hri _ (List.mem_of_getElem? hes)
 rw [hx9] at hA ⊢
 refine zsr fun K0 hK0 => ?_
 refine plz (e_box Hz m0 20 (cs := [_, _, _, _, _, _, _]) rfl rfl rfl fun g1 Az w2 Hz m2 _ _ => ?_)
 refine gz hK0 Hz (.assign rfl <| .assign rfl <| .nil) fun Az Hz => ?_
 refine wsk fun K1 hK1 => ?_
 refine zsr fun K2 hK2 => ?_
 refine goCh Hz (.move rfl <| .lss rfl rfl <| .move rfl .nil) fun Az Hz => ?_
 refine bc Hz 12 ?_ ?_
 · intro hb _; exact absurd hb (by rw [decide_eq_true_eq]; omega)
 clear Hz; intro _ Hz
 refine goCh Hz (.moveZ rfl <| .faZ 2 rfl U28 <| .loadB1Z m2 (i := 20) rfl rfl rfl U3 rfl <| .geqZ rfl rfl <| .pickF rfl rfl <| .move rfl .nil) fun Az Hz => ?_
 refine bc Hz 18 ?_ ?_
 · intro hb _; exact absurd hb (by rw [decide_eq_true_eq]; omega)
 clear Hz; intro _ Hz
 refine gz hK2 Hz (.moveZ rfl <| .faZ 6 rfl U28 <| .loadB1Z m2 (i := 20) rfl rfl rfl U26 rfl <| .lenZ rfl U26 <| .geqZ rfl rfl <| .pickF rfl rfl <| .nil) fun Az Hz => ?_
 refine bc Hz 24 ?_ ?_
 · intro hb _; exact absurd hb (by rw [decide_eq_true_eq]; omega)
 clear Hz; intro _ Hz
 refine wcf Hz ?_
 refine zss (hK1 _ _ ?_)
 refine wsk fun K3 hK3 => ?_
 replace Hz := Hz.oz [1, 2, 3, 6, 7]
 refine regS Hz (.move rfl <| .fa 5 rfl U28 <| .lb m2 20 U2 rfl rfl rfl <| .lss rfl rfl .nil) fun Az Hz => ?_
 refine bc Hz 28 ?_ ?_
 · intro hb _; exact absurd hb (by rw [decide_eq_true_eq]; omega)
 clear Hz; intro _ Hz
 refine wcf Hz ?_
 refine zss (hK3 _ _ ?_)
 refine wsk fun K4 hK4 => ?_
 refine regS Hz (.move rfl <| .fa 4 rfl U28 <| .lb m2 20 U2 rfl rfl rfl <| .gtr rfl rfl .nil) fun Az Hz => ?_
 refine bc Hz 32 ?_ ?_
 · intro hb _; exact absurd hb (by rw [decide_eq_true_eq]; omega)
 clear Hz; intro _ Hz
 refine wcf Hz ?_
 refine zss (hK4 _ _ ?_)
 refine wsk fun K5 hK5 => ?_
 replace Hz := Hz.oz [1, 2, 3, 6, 7]
 refine zsr fun K6 hK6 => ?_
 refine goCh Hz (.fa 6 rfl U28 <| .lb m2 20 U26 rfl rfl rfl <| .move rfl .nil) fun Az Hz => ?_
 obtain ⟨b45, o45, vs45, hp45, hR45, ho45, m45⟩ := m2.openR (i := 1) rfl (i) (r := [.l 2 (h9.map itD)]) (hD_get hes) 21 rfl
 revert Hz
 cases hp45; clear m2 ho45
 rcases hR45 with _ | ⟨hd45_0, _ | _⟩
 obtain ⟨p46, c46, hv46, hc46⟩ := hd45_0.l_shape; subst hv46
 intro Hz
 have m46 := m45.dat 22 rfl (hd45_0.cast (fun _ h => (free_add rfl h))); clear m45 hd45_0
 refine goCh Hz (.c rfl (fun _ h_ => y_idx h_ rfl rfl U26 fct13 (i) rfl hi) <| .loadC0 m46 (i := 21) rfl rfl U69 rfl <| .move rfl .nil) fun Az Hz => ?_
 refine plz (ecl Hz Tryz.func97 rfl (hat_some h9 t _ _ _ _ hh9.1 hh9.2 hrs hA (m46.into [(1, 22)] (by decide) rfl)) ?_)
 rintro e w50 ⟨p50, c50, rfl, hm50⟩
 have mx50 := m46.back hm50 [(22, 1), (23, 9)] (by decide); clear hm50 m46
 have m50 := mx50.oz [22, 23, 1, 20, 21]
 refine ⟨_, rfl, ?_⟩; intro Az Hz
 refine gz hK6 Hz (.move rfl <| .extract rfl rfl <| .extract rfl rfl <| .assign rfl <| .assign rfl <| .nil) fun Az Hz => ?_
 replace Hz := Hz.oz [3, 6, 7, 8, 9]
 refine regS Hz (.move rfl .nil) fun Az Hz => ?_
 refine wct Hz ?_
 refine regS Hz (.move rfl <| .assign rfl <| .assign rfl .nil) fun Az Hz => ?_
 refine rt2 Hz ?_
 rw [hA]
 exact ⟨_, _, rfl, m50.ren [(1, 1), (9, 23)] (by decide)⟩
theorem cread_none (X : Cx) (vo ch cn sz mk fl : Int) (H : List (List Ver)) (i : Nat) (t : Int) (p : Option Addr) (c : Nat) (w0 : World) (hl : H.length ≤ 1000000) (hok : HsOk H) (hri : ∀ h ∈ H, Rise h) (hi : i < H.length) (hcn : (i : Int) < cn) (hsz : 0 ≤ sz ∧ sz ≤ 32) (hf : fl ≤ t) (hm : t ≤ mk) (hA : atF (H.getD i []) t = none) (m0 : MemOk X w0 [(1, .dat (.slice p H.length c) (.l 1 (H.map hD)))] w0) :
   Calls Tryz.prog 70 #[.agg #[.int .i64 vo, .int .i64 ch, .int .i64 cn, .int .i64 sz, .int .i64 mk, .int .i64 fl, .slice p H.length c], .int .i64 i, .int .i64 t] w0 fun e w' => ∃ (p9 : Option Addr) (c9 : Nat), e = .returned (.tuple #[.slice p9 ((atF (H.getD i []) t).getD (List.replicate sz.toNat 0)).length c9, .int .i64 0]) ∧ MemOk X w0 [(1, .dat (.slice p H.length c) (.l 1 (H.map hD))), (9, .dat (.slice p9 ((atF (H.getD i []) t).getD (List.replicate sz.toNat 0)).length c9) (.ns .u8 ((atF (H.getD i []) t).getD (List.replicate sz.toNat 0))))] w' := by
 refine ent3 Tryz.func70 rfl Tryz.ntmps70 fun Az Hz => ?_
 obtain ⟨h9, hes⟩ : ∃ e, H[i]? = some e := ⟨_, List.getElem?_eq_getElem hi⟩
 have hx9 : H.getD i [] = h9 := by rw [List.getD, hes]; rfl
 have hh9 := hok _ (List.mem_of_getElem? hes)
 have hrs := hri _ (List.mem_of_getElem? hes)
 rw [hx9] at hA ⊢
 refine zsr fun K0 hK0 => ?_
 refine plz (e_box Hz m0 20 (cs := [_, _, _, _, _, _, _]) rfl rfl rfl fun g1 Az w2 Hz m2 _ _ => ?_)
 refine gz hK0 Hz (.assign rfl <| .assign rfl <| .nil) fun Az Hz => ?_
 refine wsk fun K1 hK1 => ?_
 refine zsr fun K2 hK2 => ?_
 refine goCh Hz (.move rfl <| .lss rfl rfl <| .move rfl .nil) fun Az Hz => ?_
 refine bc Hz 12 ?_ ?_
 · intro hb _; exact absurd hb (by rw [decide_eq_true_eq]; omega)
 clear Hz; intro _ Hz
 refine goCh Hz (.moveZ rfl <| .faZ 2 rfl U28 <| .loadB1Z m2 (i := 20) rfl rfl rfl U3 rfl <| .geqZ rfl rfl <| .pickF rfl rfl <| .move rfl .nil) fun Az Hz => ?_
 refine bc Hz 18 ?_ ?_
 · intro hb _; exact absurd hb (by rw [decide_eq_true_eq]; omega)
 clear Hz; intro _ Hz
 refine gz hK2 Hz (.moveZ rfl <| .faZ 6 rfl U28 <| .loadB1Z m2 (i := 20) rfl rfl rfl U26 rfl <| .lenZ rfl U26 <| .geqZ rfl rfl <| .pickF rfl rfl <| .nil) fun Az Hz => ?_
 refine bc Hz 24 ?_ ?_
 · intro hb _; exact absurd hb (by rw [decide_eq_true_eq]; omega)
 clear Hz; intro _ Hz
 refine wcf Hz ?_
 refine zss (hK1 _ _ ?_)
 refine wsk fun K3 hK3 => ?_
 replace Hz := Hz.oz [1, 2, 3, 6, 7]
 refine regS Hz (.move rfl <| .fa 5 rfl U28 <| .lb m2 20 U2 rfl rfl rfl <| .lss rfl rfl .nil) fun Az Hz => ?_
 refine bc Hz 28 ?_ ?_
 · intro hb _; exact absurd hb (by rw [decide_eq_true_eq]; omega)
 clear Hz; intro _ Hz
 refine wcf Hz ?_
 refine zss (hK3 _ _ ?_)
 refine wsk fun K4 hK4 => ?_
 refine regS Hz (.move rfl <| .fa 4 rfl U28 <| .lb m2 20 U2 rfl rfl rfl <| .gtr rfl rfl .nil) fun Az Hz => ?_
 refine bc Hz 32 ?_ ?_
 · intro hb _; exact absurd hb (by rw [decide_eq_true_eq]; omega)
 clear Hz; intro _ Hz
 refine wcf Hz ?_
 refine zss (hK4 _ _ ?_)
 refine wsk fun K5 hK5 => ?_
 replace Hz := Hz.oz [1, 2, 3, 6, 7]
 refine zsr fun K6 hK6 => ?_
 refine goCh Hz (.fa 6 rfl U28 <| .lb m2 20 U26 rfl rfl rfl <| .move rfl .nil) fun Az Hz => ?_
 obtain ⟨b45, o45, vs45, hp45, hR45, ho45, m45⟩ := m2.openR (i := 1) rfl (i) (r := [.l 2 (h9.map itD)]) (hD_get hes) 21 rfl
 revert Hz
 cases hp45; clear m2 ho45
 rcases hR45 with _ | ⟨hd45_0, _ | _⟩
 obtain ⟨p46, c46, hv46, hc46⟩ := hd45_0.l_shape; subst hv46
 intro Hz
 have m46 := m45.dat 22 rfl (hd45_0.cast (fun _ h => (free_add rfl h))); clear m45 hd45_0
 refine goCh Hz (.c rfl (fun _ h_ => y_idx h_ rfl rfl U26 fct13 (i) rfl hi) <| .loadC0 m46 (i := 21) rfl rfl U69 rfl <| .move rfl .nil) fun Az Hz => ?_
 refine plz (ecl Hz Tryz.func97 rfl (hat_none h9 t _ _ _ _ hh9.1 hh9.2 hrs hA (m46.into [(1, 22)] (by decide) rfl)) ?_)
 rintro e w50 ⟨rfl, hm50⟩
 have mx50 := m46.back hm50 [(22, 1)] (by decide); clear hm50 m46
 have m50 := mx50.oz [22, 1, 20, 21]
 refine ⟨_, rfl, ?_⟩; intro Az Hz
 refine gz hK6 Hz (.move rfl <| .extract rfl rfl <| .extract rfl rfl <| .assign rfl <| .assign rfl <| .nil) fun Az Hz => ?_
 replace Hz := Hz.oz [3, 6, 7, 8, 9]
 refine regS Hz (.move rfl .nil) fun Az Hz => ?_
 refine wcf Hz ?_
 refine zss (hK5 _ _ ?_)
 refine zsr fun K7 hK7 => ?_
 refine goCh Hz (.fa 3 rfl U28 <| .lb m50 20 U3 rfl rfl rfl <| .c rfl (fun _ h_ => y_max h_ rfl rfl (r := sz) (by omega)) <| .c rfl (fun _ h_ => y_min h_ rfl rfl (r := sz) (by omega)) .nil) fun Az Hz => ?_
 refine plz (e_makeN Hz m50 23 (sz.toNat) rfl rfl (by omega) (by omega) U22 fct19 (by decide) (by omega) rfl fun p67 c67 Az w68 Hz m68 => ?_)
 refine gz hK7 Hz (.assign rfl <| .assign rfl <| .nil) fun Az Hz => ?_
 refine rt2 Hz ?_
 have m71 := m68.freezeN 23 rfl
 have hE : sz.toNat = (List.replicate sz.toNat (0 : Int)).length := List.length_replicate.symm
 rw [hA]
 simp only [Option.getD_none]
 rw [← hE]
 exact ⟨_, _, rfl, m71.ren [(1, 1), (9, 23)] (by decide)⟩
end
section
section
variable {P : Program} {n : Nat} {T : List (Nat × Value)} {a : Act} {w w0 : World} {X : Cx} {M : Mm} {tt : TypeId} {pos : String} {af : Array Edge} {gd : Option (Nat × Bool)} {Q : Exit → Act → World → Prop} {K : Act → World → Prop}
theorem cell_rowC {N g l c : Nat} {S : Nat → Prop} {e : TypeId} {rows : List (List D)} {cs : List (List Value)} (h : RowC N S w (.slice (some ⟨g, 0, none⟩) l c) e 1 rows cs) {j : Nat} {v : Value} (hc : cs[j]? = some [v]) : w.cell? ⟨g, j, none⟩ = some v := by
 obtain ⟨h1, h2, h3, h4, h5⟩ := h
 have hfl : ∀ (cs : List (List Value)), (∀ c ∈ cs, c.length = 1) → ∀ j : Nat, cs[j]? = some [v] → cs.flatten[j]? = some v := by
   intro cs
   induction cs with
   | nil => intro _ j hj; simp at hj
   | cons c cs ih =>
     intro hl j hj
     have hc1 := hl c (by simp)
     match c, hc1 with
     | [x], _ =>
       rw [List.flatten_cons]
       cases j with
       | zero => simp at hj; subst hj; rfl
       | succ j => rw [List.getElem?_append_right (by simp)]; exact ih (fun c hc => hl c (by simp [hc])) j (by simpa using hj)
 have hv := hfl cs (fun c hc => (h3 c hc).1) j hc
 have := h1.cells (g := g) rfl j v hv
 rwa [Addr.add_lit, Nat.zero_add] at this
theorem y_loadRC1 (ha : Has n T a) (m : MemOk X w0 M w) {d : Option Tmp} {t : TypeId} {td : TypeDesc} {x : Operand} {i g l c : Nat} {e : TypeId} {rows : List (List D)} {cs : List (List Value)} {v : Value} (hm : lk M i = some (.rowC (.slice (some ⟨g, 0, none⟩) l c) e 1 rows cs)) (j : Nat) (hc : cs[j]? = some [v]) (hx : evT T x = some (.pointer (some ⟨g, 0 + j * 1, none⟩))) (hu : P.underlying t = some td) (hr : td.isRow = false) : Yl P a w ⟨d, .load t x, tt, pos, af, gd⟩ v := by
 have hk := cell_rowC (m.ok i _ hm) hc
 have hr9 : w.rangeAt g j [v] := fun q x hq => by
   cases q with
   | zero => simp at hq; subst hq; exact hk
   | succ q => simp at hq
 rw [show 0 + j * 1 = j + 0 by omega] at hx
 exact y_loadAt1 ha hr9 (q := 0) hx rfl rfl hu hr
theorem e_storeR1 (ha : Has n T a) (m : MemOk X w0 M w) (i : Nat) {g l c : Nat} {t e : TypeId} {x y : Operand} {rows : List (List D)} {v : Value} {dd : D} (hm : lk M i = some (.row (.slice (some ⟨g, 0, none⟩) l c) e 1 rows)) (J : Nat) (hJ : J < rows.length) {q' : Nat} (hx : evT T x = some (.pointer (some ⟨g, q', none⟩))) (hq' : q' = 0 + J * 1) (hy : evT T y = some v) (hv : v.oneCell' = true) (hs : (P.info? t).map (·.size) = some 1) (hdd : Rd (Free X M) w v dd)
   (h : ∀ w', MemOk X w0 ((i, .row (.slice (some ⟨g, 0, none⟩) l c) e 1 (rows.set J [dd])) :: M) w' → K a w') : Oper.wp P ⟨none, .store t x y, tt, pos, af, gd⟩ a w K Q := by
 have h9 : Oper.wp P ⟨none, .store t x (.const (.agg #[v])), tt, pos, af, gd⟩ a w K Q := e_storeRW ha m i hm J hJ hx hq' (y := .const (.agg #[v])) rfl (by simpa using hv) rfl hs (.cons hdd .nil) h
 have e1 : (execOp a.eval ⟨none, .store t x y, tt, pos, af, gd⟩).run P w = (execOp a.eval ⟨none, .store t x (.const (.agg #[v])), tt, pos, af, gd⟩).run P w := by
   have e1 : v.cells = #[v] := cells_one hv
   have e2 : (Value.agg #[v]).cells = #[v] := rfl
   have e3 : a.eval (.const (.agg #[v])) = .agg #[v] := rfl
   simp only [execOp, ha.ev hy, e3, ha.ev hx, Instr.storeAt, storeVar, e1, e2]
 have e4 : Oper.wp P ⟨none, .store t x y, tt, pos, af, gd⟩ a w K Q = Oper.upon P ⟨none, .store t x y, tt, pos, af, gd⟩ a K Q ((execOp a.eval ⟨none, .store t x y, tt, pos, af, gd⟩).run P w) := rfl
 have e5 : Oper.wp P ⟨none, .store t x (.const (.agg #[v])), tt, pos, af, gd⟩ a w K Q = Oper.upon P ⟨none, .store t x (.const (.agg #[v])), tt, pos, af, gd⟩ a K Q ((execOp a.eval ⟨none, .store t x (.const (.agg #[v])), tt, pos, af, gd⟩).run P w) := rfl
 rw [e4, e1]
 rw [e5] at h9
 exact h9
end
end
section
def HB (n : Nat) (H : List (List Ver)) : Prop := ∀ h ∈ H, Rise h ∧ h.length ≤ n ∧ (∀ v ∈ h, v.2.length ≤ 1000000) ∧ n ≤ 1000000
theorem HB.up {n m : Nat} {H : List (List Ver)} (h : HB n H) (hm : n ≤ m) (hm2 : m ≤ 1000000 := by omega) : HB m H := fun x hx => ⟨(h x hx).1, by have := (h x hx).2.1; omega, (h x hx).2.2.1, hm2⟩
theorem HB.at {n : Nat} {H : List (List Ver)} (h : HB n H) {x : List Ver} (hx : x ∈ H) : Rise x ∧ x.length ≤ 1000000 ∧ ∀ v ∈ x, v.2.length ≤ 1000000 := ⟨(h x hx).1, by have := (h x hx).2; omega, (h x hx).2.2.1⟩
theorem HB.ok {n : Nat} {H : List (List Ver)} (h : HB n H) : HsOk H := fun x hx => (h.at hx).2
theorem addF_rise {h : List Ver} (hr : Rise h) (s : Int) (d : List Int) : Rise (addF h s d) := by
 unfold addF
 split
 · rename_i hc
   refine List.pairwise_append.2 ⟨hr, by simp, fun a ha b hb => ?_⟩
   rw [List.mem_singleton.1 hb]
   show a.1 < s
   obtain ⟨j, hj, rfl⟩ := List.getElem_of_mem ha
   rcases hc.2 with h0 | h1
   · subst h0; simp at hj
   have := hr.low (j := h.length - 1) (q := j) (t := (h.getD (h.length - 1) v0).1) (by omega) (Int.le_refl _) (by omega)
   have e9 : h.getD j v0 = h[j] := by rw [List.getD, List.getElem?_eq_getElem hj]; rfl
   rw [e9] at this
   omega
 exact hr
theorem HB.set {n : Nat} {H : List (List Ver)} (h : HB n H) {x : List Ver} (hx : Rise x) {s : Int} {d : List Int} (hd : d.length ≤ 1000000) {i : Nat} (hn : n + 1 ≤ 1000000) (hxm : x ∈ H := by exact List.mem_of_getElem? (by assumption)) : HB (n + 1) (H.set i (addF x s d)) := fun y hy => by
 rcases List.mem_or_eq_of_mem_set hy with hy | rfl
 · exact (h.up (Nat.le_succ n) hn) y hy
 have hx2 := h x hxm
 refine ⟨addF_rise hx s d, ?_, ?_, hn⟩
 · unfold addF; split
   · rw [List.length_append]; simp; omega
   omega
 unfold addF; split
 · intro v hv
   rcases List.mem_append.1 hv with hv | hv
   · exact hx2.2.2.1 v hv
   rw [List.mem_singleton.1 hv]; exact hd
 exact hx2.2.2.1
theorem applyW_snoc {m : Int} {H : List (List Ver)} {W : List (Int × List (Int × List Int))} {k : Nat} {xs : Int} {xl : List (Int × List Int)} (hes : W[k]? = some (xs, xl)) : applyW m H (W.take (k + 1)) = if xs ≤ m then applyW m H (W.take k) else addW xs (applyW m H (W.take k)) xl := by
 unfold applyW
 rw [take_snoc hes, List.foldl_append]; rfl
theorem addW_snoc {s : Int} {H : List (List Ver)} {l : List (Int × List Int)} {j : Nat} {xb : Int} {xd : List Int} (hxs : l[j]? = some (xb, xd)) : addW s H (l.take (j + 1)) = (addW s H (l.take j)).set xb.toNat (addF ((addW s H (l.take j)).getD xb.toNat []) s xd) := by
 unfold addW
 rw [take_snoc hxs, List.foldl_append]; rfl
theorem prune_at {H : List (List Ver)} {f : Int} {k : Nat} {x : List Ver} (hes : H[k]? = some x) : ((H.take k).map (fun h => pruneF h f) ++ H.drop k)[k]? = some x := by
 have hk := (List.getElem?_eq_some_iff.1 hes).1
 rw [List.getElem?_append_right (by rw [List.length_map, List.length_take]; omega), List.length_map, List.length_take, List.getElem?_drop, show k + (k - min k H.length) = k by omega]
 exact hes
theorem prune_step {H : List (List Ver)} {f : Int} {k : Nat} {x : List Ver} (hes : H[k]? = some x) : ((H.take k).map (fun h => pruneF h f) ++ H.drop k).set k (pruneF x f) = (H.take (k + 1)).map (fun h => pruneF h f) ++ H.drop (k + 1) := by
 have hk := (List.getElem?_eq_some_iff.1 hes).1
 rw [List.set_append_right _ _ (by rw [List.length_map, List.length_take]; omega), List.length_map, List.length_take, show k - min k H.length = 0 by omega, take_snoc hes, List.map_append, List.append_assoc]
 congr 1
 rw [List.drop_eq_getElem_cons hk]
 rfl
theorem wpre_at {vo ch cn sz fr to fl2 : Int} {W : List (Int × List (Int × List Int))} (hP : PuOk vo ch cn sz fr to fl2 W) {k : Nat} {xs : Int} {xl : List (Int × List Int)} (hes : W[k]? = some (xs, xl)) : ∀ {j : Nat} {xb : Int} {xd : List Int}, xl[j]? = some (xb, xd) → (0 ≤ xb ∧ xb < cn) ∧ (xd.length ≤ 32 ∧ xl.length ≤ 8) := fun {j xb xd} hxs => by
 have hk := (List.getElem?_eq_some_iff.1 hes).1
 have h1 := (hP.2.2.2.2.2 k hk).2.2
 rw [show W.getD k w1 = (xs, xl) by rw [List.getD, hes]; rfl] at h1
 have hj := (List.getElem?_eq_some_iff.1 hxs).1
 have h2 := h1.2.2 j hj
 rw [getI hxs] at h2
 have h3 := hP.1.2.2.2
 have h4 : (xd.length : Int) = sz := h2.2.2.1
 exact ⟨⟨h2.1, h2.2.1⟩, by omega, h1.2.1⟩
theorem wpre_8 {vo ch cn sz fr to fl2 : Int} {W : List (Int × List (Int × List Int))} (hP : PuOk vo ch cn sz fr to fl2 W) {k : Nat} {xs : Int} {xl : List (Int × List Int)} (hes : W[k]? = some (xs, xl)) : xl.length ≤ 8 := by
 have hk := (List.getElem?_eq_some_iff.1 hes).1
 have h1 := (hP.2.2.2.2.2 k hk).2.2
 rw [show W.getD k w1 = (xs, xl) by rw [List.getD, hes]; rfl] at h1
 exact h1.2.1
theorem wpre_len {vo ch cn sz fr to fl2 : Int} {W : List (Int × List (Int × List Int))} (hP : PuOk vo ch cn sz fr to fl2 W) : ∀ e ∈ W, e.2.length ≤ 1000000 := fun e he => by
 obtain ⟨k, hk, rfl⟩ := List.getElem_of_mem he
 have h1 := (hP.2.2.2.2.2 k hk).2.2
 rw [List.getD, List.getElem?_eq_getElem hk] at h1
 have := h1.2.1
 simp at this
 omega
set_option maxRecDepth 100000
set_option maxHeartbeats 4000000
end
section
theorem its_mem {bl sz : Int} {l : List (Int × List Int)} (h : ItemsR bl sz l) {x : Int × List Int} (hx : x ∈ l) : 0 ≤ x.1 ∧ x.1 < bl ∧ (x.2.length : Int) = sz := by
 obtain ⟨j, hj, rfl⟩ := List.getElem_of_mem hx
 have h1 := h.2.2 j hj
 rw [List.getD, List.getElem?_eq_getElem hj] at h1
 exact ⟨h1.1, h1.2.1, h1.2.2.1⟩
theorem items_right {bl sz fi cnt : Int} {l : List (Int × List Int)} (h : ItemsR bl sz l) (hne : 0 < (itemsL fi cnt l).length) : ItemsR cnt sz (itemsL fi cnt l) := by
 refine ⟨hne, Nat.le_trans (itemsL_len fi cnt l) h.2.1, ?_⟩
 have hu : (itemsL fi cnt l).Pairwise fun x y => x.1 ≠ y.1 := by
   unfold itemsL
   rw [List.pairwise_map]
   refine ((itemsR_unl h).filter _).imp ?_
   intro a b hab e
   exact hab (by have e' : a.1 - fi = b.1 - fi := e; omega)
 intro j hj
 have hm : (itemsL fi cnt l)[j] ∈ itemsL fi cnt l := List.getElem_mem hj
 have hg : (itemsL fi cnt l).getD j i0 = (itemsL fi cnt l)[j] := by rw [List.getD, List.getElem?_eq_getElem hj]; rfl
 rw [hg]
 have hb : 0 ≤ ((itemsL fi cnt l)[j]).1 ∧ ((itemsL fi cnt l)[j]).1 < cnt ∧ ((((itemsL fi cnt l)[j]).2.length : Nat) : Int) = sz := by
   revert hm
   generalize (itemsL fi cnt l)[j] = z
   intro hm
   unfold itemsL at hm
   obtain ⟨x, hx, rfl⟩ := List.mem_map.1 hm
   have h1 := List.mem_filter.1 hx
   have h2 := of_decide_eq_true h1.2
   have h3 := its_mem h h1.1
   exact ⟨by show 0 ≤ x.1 - fi; omega, by show x.1 - fi < cnt; omega, h3.2.2⟩
 refine ⟨hb.1, hb.2.1, hb.2.2, ?_⟩
 rintro ⟨e, he, e1⟩
 obtain ⟨i, hi, rfl⟩ := List.getElem_of_mem he
 rw [List.length_take] at hi
 rw [List.getElem_take] at e1
 exact (List.pairwise_iff_getElem.1 hu) i j (by omega) hj (by omega) e1
theorem push_nonempty {fi cnt : Int} {W : List PWr} {e : PWr} (he : e ∈ pushL fi cnt W) : 0 < e.2.length := by
 unfold pushL at he
 exact of_decide_eq_true (List.mem_filter.1 he).2
theorem push_ok {bl sz : Int} {ws : List PWr} (hw : WrPre bl sz ws ws.length) (hwl : ws.length ≤ 1000000) {vo ch fi cnt fl2 : Int} (hsh : ShOk vo ch cnt sz) {mk tq : Nat} (hmk : mk ≤ tq) (htq : tq ≤ ws.length) (h4 : tq ≤ mk + 4) (hfl2 : 0 ≤ fl2 ∧ fl2 ≤ tq) : PuOk vo ch cnt sz mk tq fl2 (pushL fi cnt ((ws.take tq).drop mk)) := by
 refine ⟨hsh, by omega, by omega, hfl2, ?_, ?_⟩
 · refine Nat.le_trans (push_len _ _ _) ?_
   rw [List.length_drop, List.length_take]; omega
 have hR : (pushL fi cnt ((ws.take tq).drop mk)).Pairwise fun a b => a.1 < b.1 := push_rise ((ws_rise hw).take).drop
 have hM : ∀ e ∈ pushL fi cnt ((ws.take tq).drop mk), (mk : Int) < e.1 ∧ e.1 ≤ tq ∧ ItemsR cnt sz e.2 := by
   intro e he
   have h0 := push_nonempty he
   obtain ⟨w, hwm, rfl⟩ := push_mem he
   have h2 := ws_take hw (List.mem_of_mem_drop hwm)
   exact ⟨ws_drop (e := w) hw hwm, h2.2, items_right (ws_mem hw (List.mem_of_mem_take (List.mem_of_mem_drop hwm))).1 h0⟩
 intro j hj
 have hg : (pushL fi cnt ((ws.take tq).drop mk)).getD j w1 = (pushL fi cnt ((ws.take tq).drop mk))[j] := by rw [List.getD, List.getElem?_eq_getElem hj]; rfl
 rw [hg]
 have h1 := hM _ (List.getElem_mem hj)
 refine ⟨?_, h1.2.1, h1.2.2⟩
 split
 · exact h1.1
 have hg2 : (pushL fi cnt ((ws.take tq).drop mk)).getD (j - 1) w1 = (pushL fi cnt ((ws.take tq).drop mk))[j - 1]'(by omega) := by rw [List.getD, List.getElem?_eq_getElem (by omega)]; rfl
 rw [hg2]
 exact (List.pairwise_iff_getElem.1 hR) (j - 1) j (by omega) hj (by omega)
theorem chu_hb {bl sz : Int} {ws : List PWr} (hw : WrPre bl sz ws ws.length) (hsz : sz ≤ 32) {fi fl : Int} {cnt m : Nat} (hm : m ≤ 1000) : HB 900000 (chuH ws fi cnt m fl) := fun h hh => by
 have h1 := chu_right hw hh
 exact ⟨h1.1, by omega, fun v hv => by have := (h1.2.1 v hv).2.2; omega, by decide⟩
theorem chu_rise {bl sz : Int} {ws : List PWr} (hw : WrPre bl sz ws ws.length) {fi fl : Int} {cnt m : Nat} : ∀ h ∈ chuH ws fi cnt m fl, Rise h := fun h hh => (chu_right hw hh).1
theorem chunk_math {bl pe ch : Int} {len : Nat} (h1 : 1 ≤ pe) (h2 : pe ≤ bl) (h3 : bl ≤ 256) (hl : (len : Int) = (bl + pe - 1) / pe) (hc : 0 ≤ ch ∧ ch < len) : 0 ≤ ch * pe ∧ ch * pe ≤ 1000000 ∧ 1 ≤ bl - ch * pe := by
 have q1 := Int.ediv_mul_le (bl + pe - 1) (show pe ≠ 0 by omega)
 rw [← hl] at q1
 have q3 : 0 ≤ ch * pe := Int.mul_nonneg hc.1 (by omega)
 have q4 : ch * pe ≤ ((len : Int) - 1) * pe := Int.mul_le_mul_of_nonneg_right (by omega) (by omega)
 rw [Int.sub_mul, Int.one_mul] at q4
 exact ⟨q3, by omega, by omega⟩
structure CkOk (y : VolV) (k fn cnt : Nat) : Prop where
 kp : k < y.place.length
 fe : (fn : Int) = (k : Int) * y.pe
 ce : (cnt : Int) = min y.pe (y.bl - fn)
 pos : 1 ≤ cnt
 top : fn + cnt ≤ y.bl.toNat
 k255 : k ≤ 255
 c256 : cnt ≤ 256
 fnb : fn ≤ 1000
def tqN (y : VolV) (m : Nat) : Nat := min (m + 4) y.ws.length
def pwN (y : VolV) (fn cnt m : Nat) : List PWr := pushL (fn : Int) (cnt : Int) ((y.ws.take (tqN y m)).drop m)
def chN (y : VolV) (fn cnt m : Nat) : List (List Ver) := chuH y.ws (fn : Int) cnt m (min y.fl (m : Int))
theorem chN_len (y : VolV) (fn cnt m : Nat) : (chN y fn cnt m).length = cnt := chuH_len _ _ _ _ _
structure VolF (y : VolV) : Prop where
 wr : WrPre y.bl y.sz y.ws y.ws.length
 wl : y.ws.length ≤ 1000
 fl0 : 0 ≤ y.fl
 fl1 : y.fl ≤ y.ws.length
 vo : 0 ≤ y.vo ∧ y.vo ≤ 7
 bl : 1 ≤ y.bl ∧ y.bl ≤ 256
 sz : 1 ≤ y.sz ∧ y.sz ≤ 32
 pe : 1 ≤ y.pe ∧ y.pe ≤ y.bl
theorem VolS.f {y : VolV} {n : Nat} (hS : VolS n y) (hn : n ≤ 1000) : VolF y := by
 obtain ⟨v1, v2, v3, v4, v5, v6, v7, v8, v9⟩ := hS.1
 obtain ⟨n1, n2, n3, n4, n5, n6, n7, n8, n9, n10, n11⟩ := v1
 have := hS.2.2.2.1
 exact ⟨v9, by omega, v6, v7, ⟨n1, n2⟩, ⟨n3, n4⟩, ⟨n5, n6⟩, ⟨n7, n8⟩⟩
theorem CkOk.sh {y : VolV} {k fn cnt : Nat} (h : CkOk y k fn cnt) (hF : VolF y) : ShOk y.vo k cnt y.sz := ⟨hF.vo, ⟨by omega, by have := h.k255; omega⟩, ⟨by have := h.pos; omega, by have := h.c256; omega⟩, hF.sz⟩
theorem pw_ok {y : VolV} {k fn cnt : Nat} (h : CkOk y k fn cnt) (hF : VolF y) {m : Nat} (hm : m ≤ y.ws.length) : PuOk y.vo k cnt y.sz m (tqN y m) (min y.fl (tqN y m)) (pwN y fn cnt m) := by
 have := hF.wl; have := hF.fl0
 exact push_ok hF.wr (by omega) (h.sh hF) (by unfold tqN; omega) (by unfold tqN; omega) (by unfold tqN; omega) (by omega)
theorem ch_apply {y : VolV} {k fn cnt : Nat} (h : CkOk y k fn cnt) (hF : VolF y) {m : Nat} (hm : m ≤ y.ws.length) : (applyW m (chN y fn cnt m) (pwN y fn cnt m)).map (fun x => pruneF x (min y.fl (tqN y m))) = chN y fn cnt (tqN y m) := by
 have := hF.wl
 have h1 := chu_apply hF.wr (by omega) (fi := fn) (fl := min y.fl (m : Int)) (fl2 := min y.fl (tqN y m)) (cnt := cnt) (mk := m) (m := m) (tq := tqN y m) (Nat.le_refl _) hm (by unfold tqN; omega)
 rw [show max m (tqN y m) = tqN y m by unfold tqN; omega] at h1
 exact h1
end
section
set_option maxRecDepth 100000
set_option maxHeartbeats 4000000
theorem gpush_x (X : Cx) (y : VolV) (k fn cnt m : Nat) (hC : CkOk y k fn cnt) (hF : VolF y) (hwo : WrsOk y.ws) (pp pn pw : Option Addr) (cp nn9 cn9 cw : Nat) (mi : Int) (w0 : World) (hmi : mi = (m : Int)) (hm : m ≤ y.ws.length) (m0 : MemOk X w0 [(3, .dat (.slice pw (y.ws.map wrD).length cw) (.l 2 (y.ws.map wrD)))] w0) :
   Calls Tryz.prog 34 #[.agg #[.int .i64 y.vo, .int .i64 y.bl, .int .i64 y.sz, .int .i64 y.pe, .slice pp y.place.length cp, .int .i64 y.to, .int .i64 y.ne, .bool y.hi, .int .i64 y.fl, .slice pn nn9 cn9, .slice pw (y.ws.map wrD).length cw], .int .i64 (k : Int), .int .i64 mi] w0 fun e w' => ∃ (p : Option Addr) (c : Nat), e = .returned (.tuple #[.agg #[.int .i64 y.vo, .int .i64 (k : Int), .int .i64 (cnt : Int), .int .i64 y.sz, .int .i64 mi, .int .i64 (tqN y m : Int), .int .i64 (min y.fl (tqN y m : Int)), .slice p (pwN y fn cnt m).length c], .bool true]) ∧ MemOk X w0 [(3, .dat (.slice pw (y.ws.map wrD).length cw) (.l 2 (y.ws.map wrD))), (9, .dat (.slice p (pwN y fn cnt m).length c) (.l 2 ((pwN y fn cnt m).map wrD)))] w' := by
 subst hmi
 have hw := hF.wr; have hl := hF.wl; have hk := hC.kp; have h1 := hC.fe; have h2 := hC.ce; have h3 := hC.pos; have h4 := hC.fnb; have hb := hF.bl; have hp := hF.pe
 have h := rpush_any X y.vo y.bl y.sz y.pe y.to y.ne y.fl y.hi pp pn pw cp nn9 cn9 cw y.place y.ws (k : Int) (fn : Int) (cnt : Int) m (tqN y m) w0 ⟨by omega, by omega⟩ hp.1 h1.symm ⟨by omega, by omega⟩ ⟨by omega, by omega⟩ h2.symm (by omega) (by omega) hwo (fun e he x hx => ⟨(its_mem (ws_mem hw he).1 hx).1, (its_mem (ws_mem hw he).1 hx).2.1⟩) hm (by unfold tqN; omega) m0
 refine h.mono fun e w' h9 => ?_
 obtain ⟨p, c, h5, h6⟩ := h9
 rw [List.length_map] at h5
 have h7 : (List.map wrD (pushL (fn : Int) (cnt : Int) ((y.ws.take (tqN y m)).drop m))).length = (pwN y fn cnt m).length := List.length_map ..
 rw [h7] at h6
 exact ⟨p, c, h5, h6⟩
theorem rlen_y (y : VolV) (pp pn pw : Option Addr) (np cp nn9 cn9 cw : Nat) (w0 : World) :
   Calls Tryz.prog 13 #[.agg #[.int .i64 y.vo, .int .i64 y.bl, .int .i64 y.sz, .int .i64 y.pe, .slice pp np cp, .int .i64 y.to, .int .i64 y.ne, .bool y.hi, .int .i64 y.fl, .slice pn nn9 cn9, .slice pw (y.ws.map wrD).length cw]] w0 fun e w' => e = .returned (.int .i64 (y.ws.length : Int)) ∧ Below w0.heap.size w0 w' := by
 have h := rlen_any y.vo y.bl y.sz y.pe y.to y.ne y.fl y.hi pp pn pw np cp nn9 cn9 (y.ws.map wrD).length cw w0
 rw [List.length_map] at h
 rw [List.length_map]
 exact h
end
section
def rpr (h : List Ver) (f : Int) (i : Nat) : List Ver := (h.take i).drop (upN h f - 1)
theorem rpr_zero (h : List Ver) (f : Int) : rpr h f 0 = [] := by unfold rpr; rw [List.take_zero, List.drop_nil]
theorem rpr_all (h : List Ver) (f : Int) : rpr h f h.length = pruneF h f := by unfold rpr pruneF; rw [List.take_length]
theorem rpr_yes {h : List Ver} {f : Int} {i : Nat} {v : Ver} (hi : h[i]? = some v) (hu : upN h f ≤ i + 1) : rpr h f (i + 1) = rpr h f i ++ [v] := by
 unfold rpr
 rw [take_snoc hi, List.drop_append_of_le_length]
 have := (List.getElem?_eq_some_iff.1 hi).1
 rw [List.length_take]; omega
theorem rpr_no {h : List Ver} {f : Int} {i : Nat} (hu : i + 1 < upN h f) : rpr h f (i + 1) = rpr h f i := by
 unfold rpr
 rw [List.drop_eq_nil_of_le (by rw [List.length_take]; omega), List.drop_eq_nil_of_le (by rw [List.length_take]; omega)]
theorem rpr_gt {h : List Ver} (hr : Rise h) {f : Int} {i : Nat} (hi : i < h.length) : f < (h.getD i v0).1 ↔ upN h f ≤ i := by
 constructor
 · intro hg
   rcases Nat.lt_or_ge i (upN h f) with h1 | h1
   · have := upN_below h1; omega
   exact h1
 intro hu
 exact hr.above hi hu
def chgF (h : List Ver) (a b : Int) : Bool := decide (upN h a < h.length) && decide ((h.getD (upN h a) v0).1 ≤ b)
def chgL (H : List (List Ver)) (a b : Int) (k : Nat) : List Int := ((List.range k).filter fun i => chgF (H.getD i []) a b).map fun (i : Nat) => (i : Int)
theorem chgL_yes {H : List (List Ver)} {a b : Int} {k : Nat} (h : chgF (H.getD k []) a b = true) : chgL H a b (k + 1) = chgL H a b k ++ [(k : Int)] := by
 unfold chgL; rw [List.range_succ, List.filter_append, List.map_append, List.filter_cons_of_pos (by exact h), List.filter_nil]; rfl
theorem chgL_no {H : List (List Ver)} {a b : Int} {k : Nat} (h : chgF (H.getD k []) a b = false) : chgL H a b (k + 1) = chgL H a b k := by
 unfold chgL; rw [List.range_succ, List.filter_append, List.map_append, List.filter_cons_of_neg (by show ¬ chgF (H.getD k []) a b = true; rw [h]; simp), List.filter_nil, List.map_nil, List.append_nil]
theorem chgL_len (H : List (List Ver)) (a b : Int) (k : Nat) : (chgL H a b k).length ≤ k := by
 unfold chgL; rw [List.length_map]; exact Nat.le_trans (List.length_filter_le _ _) (Nat.le_of_eq List.length_range)
end
end Go.Proofs.YtamjnimaeecmoaaGreat.K
