/- General laws of walks: Vol33, Vol34, Vol13, Vol20, VolSm, Vol39, Pack1, Pack2, Pack3, Pack4, Pack5, RegionB, PackG, Gen, Gen2, Codec, VX1, VX2, Str1, Str2, Ab24, Str4m, Str5y. -/
import Derived.Test.YteglmahnkfgelaaGreatG4
import Derived.Test.YteglmahnkfgelaaGreatG3
import Derived.Test.YteglmahnkfgelaaGreatG2
import Derived.Test.YteglmahnkfgelaaGreatG1
import Derived.Laws.Bits64
import Derived.RegionTactic
import Derived.ChangeAlike
import Derived.Lib.SlBytesConst
import Derived.Deep.Matrix
section
namespace Go.Proofs.YteglmahnkfgelaaGreat.K
open Go.ChangeShapes Go.WideShapes Go.ChangeAt Go.RowKit
set_option linter.unusedVariables false
set_option linter.unusedSimpArgs false
theorem fl34mV : flatS Tryz.prog 34 [.int .i64 0, .int .i64 0, .int .i64 0, .int .i64 0, .slice none 0 0, .int .i64 0, .int .i64 0, .bool false, .int .i64 0, .slice none 0 0, .slice none 0 0] = true := by kernel_rfl
theorem fl128mA : flatS Tryz.prog 128 [.int .i64 0, .int .i64 0, .int .i64 0, .int .i64 0, .slice none 0 0] = true := by kernel_rfl
def volZ : VolV := ⟨0, 0, 0, 0, [], 0, 0, false, 0, [], []⟩
def newV (vo bl sz pe to : Int) (place : List Int) : VolV := ⟨vo, bl, sz, pe, place, to, 0, decide (0 < to), 0, [], []⟩
theorem newV_s {n : Nat} {vo bl sz pe to : Int} {place : List Int} (hN : NewOk vo bl sz pe to place) : VolS n (newV vo bl sz pe to place) := ⟨VolR.new hN, fun _ => rfl, Nat.zero_le _, Nat.zero_le _, fun _ h => by cases h⟩
theorem Rd.capL {S : Nat → Prop} {w : World} {p : Option Addr} {l c m : Nat} {rows : List (List D)} (h : Rd S w (.slice p l c) (.l m rows)) : rows.length ≤ c := by
 obtain ⟨pq, cq, hv, hc⟩ := h.l_shape
 injection hv with _ _ e3; omega
theorem itok {d : List Int} (h : d.length ≤ 32) : d.length ≤ 140737488351232 := by omega
theorem rnew_non (kd vo bl sz pe to at0 ix : Int) (place : List Int) (pp pi : Option Addr) (cp ni ci : Nat) (w0 : World) (h0 : Rd (fun _ => True) w0 (.slice pp place.length cp) (.ns .i64 place)) (hn : place.length ≤ 1000000) (hN : ¬ NewOk vo bl sz pe to place) :
   Calls Tryz.prog 76 #[.agg #[.int .i64 kd, .int .i64 vo, .int .i64 bl, .int .i64 sz, .int .i64 pe, .slice pp place.length cp, .int .i64 to, .int .i64 at0, .int .i64 ix, .slice pi ni ci]] w0 fun e w' => e = .returned (.tuple #[.agg #[.int .i64 0, .int .i64 0, .int .i64 0, .int .i64 0, .slice none 0 0, .int .i64 0, .int .i64 0, .bool false, .int .i64 0, .slice none 0 0, .slice none 0 0], .int .i64 23]) ∧ Below w0.heap.size w0 w' :=
 (rnew_any kd vo bl sz pe to at0 ix place pp pi cp ni ci w0 h0 hn).mono (fun _ _ h => h.elim (fun h => absurd h.1 hN) (fun h => h.2))
set_option maxRecDepth 100000
set_option maxHeartbeats 4000000
theorem rmVol (X : Cx) (B : Nat) (L : List VolV) (p : Option Addr) (c : Nat) (vo : Int) (w0 : World) (hl : L.length ≤ 1000000) (m0 : MemOk X w0 [(1, .box B 120 [.slice p (L.map volD).length c]), (2, .dat (.slice p (L.map volD).length c) (.l 11 (L.map volD)))] w0) :
   Calls Tryz.prog 72 #[.pointer (some ⟨B, 0, none⟩), .int .i64 vo] w0 fun e w' => ∃ (x : VolV) (there : Bool) (p1 p2 p3 : Option Addr) (d1 d2 d3 : Nat), e = .returned (.tuple #[.agg #[.int .i64 x.vo, .int .i64 x.bl, .int .i64 x.sz, .int .i64 x.pe, .slice p1 x.place.length d1, .int .i64 x.to, .int .i64 x.ne, .bool x.hi, .int .i64 x.fl, .slice p2 x.pins.length d2, .slice p3 (x.ws.map wrD).length d3], .bool there]) ∧ (there = true → x ∈ L) ∧ (there = false → x = volZ) ∧ MemOk X w0 [(1, .box B 120 [.slice p (L.map volD).length c]), (2, .dat (.slice p (L.map volD).length c) (.l 11 (L.map volD))), (3, .dat (.slice p1 x.place.length d1) (.ns .i64 x.place)), (4, .dat (.slice p2 x.pins.length d2) (.ns .i64 x.pins)), (5, .dat (.slice p3 (x.ws.map wrD).length d3) (.l 2 (x.ws.map wrD)))] w' := by
 refine ent2 Tryz.func72 rfl Tryz.ntmps72 fun Az Hz => ?_
 refine zsr fun K0 hK0 => ?_
 refine plz (e_alloc Hz m0 20 fct26 rfl fun g1 Az w2 Hz m2 _ _ => ?_)
 refine gz hK0 Hz (.assign rfl .nil) fun Az Hz => ?_
 refine zsr fun K1 hK1 => ?_
 refine goCh Hz (.move rfl <| .move rfl .nil) fun Az Hz => ?_
 refine plz (ecl Hz Tryz.func103 rfl (rfind _ _ L _ _ _ _ hl (m2.into [(1, 1), (2, 2)] (by decide) rfl)) ?_)
 rintro e w8 ⟨j, rfl, hj1, hj2, hm8⟩
 have mx8 := m2.back hm8 [(1, 1), (2, 2)] (by decide); clear hm8 m2
 have m8 := mx8.oz [1, 2, 20]
 refine ⟨_, rfl, ?_⟩; intro Az Hz
 refine gz hK1 Hz (.assign rfl .nil) fun Az Hz => ?_
 refine wsk fun K2 hK2 => ?_
 refine regS Hz (.move rfl <| .lss rfl rfl .nil) fun Az Hz => ?_
 refine bc Hz 11 ?_ ?_
 ·
  intro hb13 Hz; try simp only [QQ, Qax] at hb13
  refine wct Hz ?_
  replace Hz := Hz.oz [0, 4, 5, 6]
  refine zsr fun K3 hK3 => ?_
  refine goCh Hz (.build rfl fct26 fl34mV rfl (by dsimp only [setL, List.set] <;> rfl) .nil) fun Az Hz => ?_
  refine plz (stw Hz m8 20 fct24 fun w17 m17 _ => ?_)
  refine gz hK3 Hz (.assign rfl .nil) fun Az Hz => ?_
  refine rtd (retCT (fn := Tryz.f72) Hz m17 (i := 20) rfl rfl rfl rfl U34 rfl fct24 ?_)
  have mA := m17.dat 91 rfl (Rd.nilN _ _ .i64 none)
  have mB := mA.dat 92 rfl (Rd.nilN _ _ .i64 none)
  have mC := mB.dat 93 rfl (Rd.l0 none 0 2)
  exact ⟨volZ, false, _, _, _, _, _, _, rfl, (fun h => by cases h), (fun _ => rfl), mC.ren [(1, 1), (2, 2), (3, 91), (4, 92), (5, 93)] (by decide)⟩
 intro hb13 Hz; try simp only [QQ, Qax] at hb13
 revert Hz
 obtain ⟨jn, rfl⟩ : ∃ jn : Nat, j = (jn : Int) := ⟨j.toNat, by omega⟩
 intro Hz
 have hjl : jn < L.length := by omega
 obtain ⟨x, hes⟩ : ∃ x, L[jn]? = some x := ⟨_, List.getElem?_eq_getElem hjl⟩
 refine wcf Hz ?_
 refine zss (hK2 _ _ ?_)
 replace Hz := Hz.oz [0, 4, 5, 6]
 refine zsr fun K4 hK4 => ?_
 refine goCh Hz (.move rfl <| .nilCheck rfl <| .fa 0 rfl U120 <| .lb m8 1 U118 rfl rfl rfl <| .move rfl .nil) fun Az Hz => ?_
 obtain ⟨b31, o31, vs31, hp31, hR31, ho31, m31⟩ := m8.openR (i := 2) rfl (jn) (r := [.v (.int .i64 x.vo), .v (.int .i64 x.bl), .v (.int .i64 x.sz), .v (.int .i64 x.pe), .ns .i64 x.place, .v (.int .i64 x.to), .v (.int .i64 x.ne), .v (.bool x.hi), .v (.int .i64 x.fl), .ns .i64 x.pins, .l 2 (x.ws.map wrD)]) (volD_get hes) 21 rfl
 revert Hz
 cases hp31; clear m8 ho31
 rcases hR31 with _ | ⟨hd31_0, _ | ⟨hd31_1, _ | ⟨hd31_2, _ | ⟨hd31_3, _ | ⟨hd31_4, _ | ⟨hd31_5, _ | ⟨hd31_6, _ | ⟨hd31_7, _ | ⟨hd31_8, _ | ⟨hd31_9, _ | ⟨hd31_10, _ | _⟩⟩⟩⟩⟩⟩⟩⟩⟩⟩⟩
 obtain rfl := hd31_0.v_out
 clear hd31_0
 obtain rfl := hd31_1.v_out
 clear hd31_1
 obtain rfl := hd31_2.v_out
 clear hd31_2
 obtain rfl := hd31_3.v_out
 clear hd31_3
 obtain ⟨p32, c32, hv32, hc32⟩ := hd31_4.ns_shape; subst hv32
 intro Hz
 have m32 := m31.dat 22 rfl (hd31_4.cast (fun _ h => (free_add rfl h))); clear m31 hd31_4
 revert Hz
 obtain rfl := hd31_5.v_out
 clear hd31_5
 obtain rfl := hd31_6.v_out
 clear hd31_6
 obtain rfl := hd31_7.v_out
 clear hd31_7
 obtain rfl := hd31_8.v_out
 clear hd31_8
 obtain ⟨p33, c33, hv33, hc33⟩ := hd31_9.ns_shape; subst hv33
 intro Hz
 have m33 := m32.dat 23 rfl (hd31_9.cast (fun _ h => (free_add rfl (free_add rfl h)))); clear m32 hd31_9
 revert Hz
 obtain ⟨p34, c34, hv34, hc34⟩ := hd31_10.l_shape; subst hv34
 intro Hz
 have m34 := m33.dat 24 rfl (hd31_10.cast (fun _ h => (free_add rfl (free_add rfl (free_add rfl h))))); clear m33 hd31_10
 refine goCh Hz (.c rfl (fun _ h_ => y_idx h_ rfl rfl U118 fct24 (jn) rfl (by simpa using hjl)) <| .loadCR m34 (i := 21) rfl rfl U34 rfl fct24 .nil) fun Az Hz => ?_
 refine plz (stw Hz m34 20 fct24 fun w37 m37 _ => ?_)
 refine gz hK4 Hz (.assign rfl .nil) fun Az Hz => ?_
 refine rtd (retCT (fn := Tryz.f72) Hz m37 (i := 20) rfl rfl rfl rfl U34 rfl fct24 ?_)
 exact ⟨x, true, _, _, _, _, _, _, rfl, (fun _ => List.mem_of_getElem? hes), (fun h => by cases h), m37.ren [(1, 1), (2, 2), (3, 22), (4, 23), (5, 24)] (by decide)⟩
theorem rmApply (X : Cx) (B n : Nat) (L : List VolV) (p : Option Addr) (c : Nat) (b : List Int) (pb : Option Addr) (cb : Nat) (w0 : World) (hM : MacS n L) (hn : n ≤ 800000) (hb : b.length ≤ 1000000) (hbb : BytesL b) (m0 : MemOk X w0 [(1, .box B 120 [.slice p (L.map volD).length c]), (2, .dat (.slice p (L.map volD).length c) (.l 11 (L.map volD))), (3, .dat (.slice pb b.length cb) (.ns .u8 b))] w0) :
   Calls Tryz.prog 75 #[.pointer (some ⟨B, 0, none⟩), .slice pb b.length cb] w0 fun e w' => ∃ (e9 rl rf rn : Int) (L' : List VolV) (p' : Option Addr) (c' : Nat), e = .returned (.agg #[.int .i64 e9, .int .i64 rl, .int .i64 rf, .int .i64 rn, .slice none 0 0]) ∧ MacS (n + 1) L' ∧ MemOk X w0 [(1, .box B 120 [.slice p' (L'.map volD).length c']), (2, .dat (.slice p' (L'.map volD).length c') (.l 11 (L'.map volD)))] w' := by
 refine ent2 Tryz.func75 rfl Tryz.ntmps75 fun Az Hz => ?_
 have hl : L.length ≤ 1000000 := by have := hM.1; omega
 have hlm : (L.map volD).length ≤ 1000000 := by simpa using hl
 refine zsr fun K0 hK0 => ?_
 refine plz (e_alloc Hz m0 20 fct29 rfl fun g1 Az w2 Hz m2 _ _ => ?_)
 refine znl (hK0 _ _ ?_)
 refine zsr fun K1 hK1 => ?_
 refine goCh Hz (.move rfl .nil) fun Az Hz => ?_
 refine plz (ecl Hz Tryz.func108 rfl (rreadCmd _ b _ _ _ hb hbb (m2.into [(1, 3)] (by decide) rfl)) ?_)
 rintro e w5 ⟨kd, vo, bl, sz, pe, to, at0, ix, place, items, pp5, cp5, pi5, ci5, er, rfl, hpl, hil, hii, hm5⟩
 have mx5 := m2.back hm5 [(21, 1), (22, 2)] (by decide); clear hm5 m2
 have m5 := mx5.oz [21, 22, 1, 2, 20]
 refine ⟨_, rfl, ?_⟩; intro Az Hz
 refine goCh Hz (.move rfl <| .extract rfl rfl <| .extract rfl rfl .nil) fun Az Hz => ?_
 refine plz (e_alloc Hz m5 23 fct32 rfl fun g10 Az w11 Hz m11 _ _ => ?_)
 refine plz (stw Hz m11 23 fct27 fun w12 m12 _ => ?_)
 refine gz hK1 Hz (.assign rfl .nil) fun Az Hz => ?_
 refine wsk fun K2 hK2 => ?_
 replace Hz := Hz.oz [0, 4, 5, 6]
 refine regS Hz (.move rfl <| .neq rfl rfl .nil) fun Az Hz => ?_
 refine bc Hz 19 ?_ ?_
 ·
  intro hb17 Hz; try simp only [QQ, Qax] at hb17
  refine wct Hz ?_
  refine zsr fun K3 hK3 => ?_
  refine goCh Hz (.build rfl fct29 fl128mA rfl (by dsimp only [setL, List.set] <;> rfl) .nil) fun Az Hz => ?_
  refine plz (stw Hz m12 20 fct28 fun w20 m20 _ => ?_)
  refine znl (hK3 _ _ ?_)
  refine rtd (retC (fn := Tryz.f75) Hz m20 (i := 20) rfl rfl rfl U128 rfl fct28 ?_)
  exact ⟨_, _, _, _, L, _, _, rfl, hM.up (by omega), m20.only [1, 2]⟩
 intro hb17 Hz; try simp only [QQ, Qax] at hb17
 refine wcf Hz ?_
 refine zss (hK2 _ _ ?_)
 refine zsr fun K4 hK4 => ?_
 refine goCh Hz (.move rfl <| .fa 1 rfl U125 <| .lb m12 23 U3 rfl rfl rfl .nil) fun Az Hz => ?_
 refine plz (ecl Hz Tryz.func103 rfl (rfind _ _ L _ _ _ _ hl (m12.into [(1, 1), (2, 2)] (by decide) rfl)) ?_)
 rintro e w27 ⟨j, rfl, hj1, hj2, hm27⟩
 have mx27 := m12.back hm27 [(1, 1), (2, 2)] (by decide); clear hm27 m12
 have m27 := mx27.oz [1, 2, 20, 21, 22, 23]
 refine ⟨_, rfl, ?_⟩; intro Az Hz
 refine gz hK4 Hz (.assign rfl .nil) fun Az Hz => ?_
 replace Hz := Hz.oz [0, 4, 5, 7]
 refine zsr fun K5 hK5 => ?_
 refine goCh Hz (.move rfl <| .nilCheck rfl <| .fa 0 rfl U120 <| .lb m27 1 U118 rfl rfl rfl .nil) fun Az Hz => ?_
 have m39 := m27.nilR 24 34 11
 refine plz (e_appR Hz m39 24 rfl rfl rfl (m39.rd (i := 2) rfl) U118 fct43 rfl rfl (by decide) (by simp; omega) rfl fun p40 c40 Az w41 Hz m41 => ?_)
 refine gz hK5 Hz (.assign rfl .nil) fun Az Hz => ?_
 refine wsk fun K6 hK6 => ?_
 refine regS Hz (.fa 0 rfl U125 <| .lb m41 23 U3 rfl rfl rfl <| .eql rfl rfl .nil) fun Az Hz => ?_
 refine bc Hz 32 ?_ ?_
 ·
  intro hb46 Hz; try simp only [QQ, Qax] at hb46
  have hkd : kd = 1 := by simpa using hb46
  refine wct Hz ?_
  refine wsk fun K7 hK7 => ?_
  replace Hz := Hz.oz [0, 4, 5, 7, 8]
  refine zsr fun K8 hK8 => ?_
  have m49 := m41.freezeR 24 rfl
  refine gz hK8 Hz (.move rfl <| .geq rfl rfl <| .nil) fun Az Hz => ?_
  refine bc Hz 34 ?_ ?_
  ·
   intro hb52 Hz; try simp only [QQ, Qax] at hb52
   refine wct Hz ?_
   refine zsr fun K9 hK9 => ?_
   refine goCh Hz (.build rfl fct29 fl128mA rfl (by dsimp only [setL, List.set] <;> rfl) .nil) fun Az Hz => ?_
   refine plz (stw Hz m49 20 fct28 fun w55 m55 _ => ?_)
   refine znl (hK9 _ _ ?_)
   refine rtd (retC (fn := Tryz.f75) Hz m55 (i := 20) rfl rfl rfl U128 rfl fct28 ?_)
   exact ⟨_, _, _, _, L, _, _, rfl, hM.up (by omega), m55.only [1, 2]⟩
  intro hb52 Hz; try simp only [QQ, Qax] at hb52
  refine wcf Hz ?_
  refine zss (hK7 _ _ ?_)
  refine wsk fun K10 hK10 => ?_
  by_cases hN : NewOk vo bl sz pe to place
  ·
   refine wp_region_lit ?_
   refine goCh Hz (.loadBR m49 (i := 23) rfl rfl U125 rfl fct27 (by simp) (by dsimp only [List.drop, List.take] <;> rfl) .nil) fun Az Hz => ?_
   refine plz (ecl Hz Tryz.func76 rfl (rnew_yes _ vo bl sz pe to _ _ place _ _ _ _ _ _ ((m49.rd (i := 21) rfl).any) (by omega) hN) ?_)
   rintro e w57 ⟨p57, c57, rfl, hd57, hb57⟩
   have m58 := m49.callF 25 rfl hb57 hd57
   refine ⟨_, rfl, ?_⟩; intro Az Hz
   refine goCh Hz (.move rfl <| .extract rfl rfl <| .extract rfl rfl .nil) fun Az Hz => ?_
   refine plz (e_alloc Hz m58 26 fct26 rfl fun g63 Az w64 Hz m64 _ _ => ?_)
   refine plz (stw Hz m64 26 fct24 fun w65 m65 _ => ?_)
   refine gz hK10 Hz (.assign rfl .nil) fun Az Hz => ?_
   refine wsk fun K11 hK11 => ?_
   replace Hz := Hz.oz [0, 4, 5, 7, 8, 9, 10]
   refine regS Hz (.move rfl <| .neq rfl rfl .nil) fun Az Hz => ?_
   refine bc Hz 42 ?_ ?_
   · intro hb _; exact absurd hb (by simp)
   clear Hz; intro _ Hz
   refine wcf Hz ?_
   refine zss (hK11 _ _ ?_)
   refine regS Hz (.assign rfl .nil) fun Az Hz => ?_
   refine wsk fun K12 hK12 => ?_
   refine wp_block ?_
   refine wp_loop_ghost (fun g a w => ∃ (k B4 B5 B9 c8 c9 n1 d1 n2 d2 : Nat) (p8 p9 q1 q2 : Option Addr), k ≤ (L.map volD).length ∧ g = (L.map volD).length - k ∧ Has 97 [(0, .pointer (some ⟨B, 0, none⟩)), (4, .pointer (some ⟨B4, 0, none⟩)), (5, .pointer (some ⟨B5, 0, none⟩)), (7, .int .i64 k), (8, .slice p8 (L.map volD).length c8), (9, .pointer (some ⟨B9, 0, none⟩))] a ∧ MemOk X w0 [(1, .box B 120 [.slice p (L.map volD).length c]), (2, .dat (.slice p (L.map volD).length c) (.l 11 (L.map volD))), (4, .box B4 128 [.int .i64 0, .int .i64 0, .int .i64 0, .int .i64 0, .slice none 0 0]), (5, .box B5 125 [.int .i64 kd, .int .i64 vo, .int .i64 bl, .int .i64 sz, .int .i64 pe, .slice q1 n1 d1, .int .i64 to, .int .i64 at0, .int .i64 ix, .slice q2 n2 d2]), (9, .box B9 34 [.int .i64 vo, .int .i64 bl, .int .i64 sz, .int .i64 pe, .slice p9 place.length c9, .int .i64 to, .int .i64 0, .bool (decide (0 < to)), .int .i64 0, .slice none 0 0, .slice none 0 0]), (8, .dat (.slice p8 (L.map volD).length c8) (.l 11 (L.map volD))), (10, .dat (.slice p9 place.length c9) (.ns .i64 place))] w) ((L.map volD).length) ?_ ?_
   · exact ⟨0, _, _, _, _, _, _, _, _, _, _, _, _, _, Nat.zero_le _, rfl, Hz.only [0, 4, 5, 7, 8, 9], m65.ren [(1, 1), (2, 2), (4, 20), (5, 23), (9, 26), (8, 24), (10, 25)] (by decide)⟩
   clear Hz m65
   rintro g Az w72 ⟨k, B4, B5, B9, c8, c9, n1, d1, n2, d2, p8, p9, q1, q2, hkl, hg, Hz, m72⟩
   refine wsk fun K13 hK13 => ?_
   refine wsk fun K14 hK14 => ?_
   by_cases hk : k < (L.map volD).length
   ·
    obtain ⟨z9, hes9⟩ : ∃ x, L[k]? = some x := ⟨_, List.getElem?_eq_getElem (by simpa using hk)⟩
    obtain ⟨b73, o73, vs73, hp73, hR73, ho73, m73⟩ := m72.openR (i := 8) rfl (k) (r := [.v (.int .i64 z9.vo), .v (.int .i64 z9.bl), .v (.int .i64 z9.sz), .v (.int .i64 z9.pe), .ns .i64 z9.place, .v (.int .i64 z9.to), .v (.int .i64 z9.ne), .v (.bool z9.hi), .v (.int .i64 z9.fl), .ns .i64 z9.pins, .l 2 (z9.ws.map wrD)]) (volD_get hes9) 100 rfl
    revert Hz
    cases hp73; clear m72 ho73
    rcases hR73 with _ | ⟨hd73_0, _ | ⟨hd73_1, _ | ⟨hd73_2, _ | ⟨hd73_3, _ | ⟨hd73_4, _ | ⟨hd73_5, _ | ⟨hd73_6, _ | ⟨hd73_7, _ | ⟨hd73_8, _ | ⟨hd73_9, _ | ⟨hd73_10, _ | _⟩⟩⟩⟩⟩⟩⟩⟩⟩⟩⟩
    obtain rfl := hd73_0.v_out
    clear hd73_0
    obtain rfl := hd73_1.v_out
    clear hd73_1
    obtain rfl := hd73_2.v_out
    clear hd73_2
    obtain rfl := hd73_3.v_out
    clear hd73_3
    obtain ⟨p74, c74, hv74, hc74⟩ := hd73_4.ns_shape; subst hv74
    intro Hz
    have m74 := m73.dat 101 rfl (hd73_4.cast (fun _ h => (free_add rfl h))); clear m73 hd73_4
    revert Hz
    obtain rfl := hd73_5.v_out
    clear hd73_5
    obtain rfl := hd73_6.v_out
    clear hd73_6
    obtain rfl := hd73_7.v_out
    clear hd73_7
    obtain rfl := hd73_8.v_out
    clear hd73_8
    obtain ⟨p75, c75, hv75, hc75⟩ := hd73_9.ns_shape; subst hv75
    intro Hz
    have m75 := m74.dat 102 rfl (hd73_9.cast (fun _ h => (free_add rfl (free_add rfl h)))); clear m74 hd73_9
    revert Hz
    obtain ⟨p76, c76, hv76, hc76⟩ := hd73_10.l_shape; subst hv76
    intro Hz
    have m76 := m75.dat 103 rfl (hd73_10.cast (fun _ h => (free_add rfl (free_add rfl (free_add rfl h))))); clear m75 hd73_10
    have m77 := m76.oz [1, 2, 4, 5, 8, 9, 10, 100, 101, 102, 103]
    refine region_p 14 (B := [(1, _), (2, _), (4, _), (5, _), (8, _), (9, _), (10, _), (100, _), (101, _), (102, _), (103, _)]) (m77.to ⟨il, il, il, il, il, il, il, il, il, il, il, trivial⟩) m77 (by kernel_rfl) (fun w78 hP78 m78 => ?_); clear m77
    refine goA hP78 [0, 1, 2, 3, 4] 5 0 31 Hz (m78.to ⟨il, il, il, il, il, il, il, il, il, il, il, trivial⟩) (.move rfl <| .move rfl <| .len rfl U118 <| .lss rfl rfl <| .move rfl .nil) fun Az Hz => ?_
    refine bc Hz 49 ?_ ?_
    rotate_left
    · intro hb _; exact absurd hb (by simpa using hk)
    clear Hz; intro _ Hz
    refine goR hP78 [5, 6, 7, 8, 9, 10, 11, 12, 13] [9, 11] 9 31 16383 Hz (m78.to ⟨il, il, il, il, il, il, il, il, il, il, il, trivial⟩) (.move rfl <| .move rfl <| .p (fun _ _ h_ => y_idx h_ rfl rfl U118 fct24 (k) rfl hk) <| .fieldAddrQ 0 rfl U34 rfl (s := 0) (by kernel_rfl) rfl <| .loadC0 hh (i := 100) rfl rfl U3 rfl <| .fa 1 rfl U125 <| .lb hh 5 U3 rfl rfl rfl <| .lss rfl rfl <| .pickT rfl rfl .nil) fun Az Hz => ?_
    refine wpAnyE_done (by kernel_rfl) ?_ _
    refine hK14 _ _ ?_
    refine bc Hz 58 ?_ ?_
    ·
     intro hb94 Hz; try simp only [QQ, Qax] at hb94
     refine wct Hz ?_
     refine zss (hK13 _ _ ?_)
     refine wp_block ?_
     replace Hz := Hz.oz [0, 4, 5, 7, 8, 9]
     refine wp_region_lit ?_
     refine goCh Hz (.move rfl <| .inc (k + 1) <| .assign rfl .nil) fun Az Hz => ?_
     refine wpList_nil ?_
     show ∃ n', n' < _ ∧ _
     exact ⟨(L.map volD).length - (k + 1), by omega, k + 1, _, _, _, _, _, _, _, _, _, _, _, _, _, by omega, rfl, Hz.only [0, 4, 5, 7, 8, 9], m78.only [1, 2, 4, 5, 9, 8, 10]⟩
    intro hb94 Hz; try simp only [QQ, Qax] at hb94
    refine wcf Hz ?_
    refine wp_exit ?_
    refine hK12 _ _ ?_
    refine wsk fun K15 hK15 => ?_
    replace Hz := Hz.oz [0, 4, 5, 7, 8, 9]
    have m100 := m78.oz [1, 2, 4, 5, 8, 9, 10, 100, 101, 102, 103]
    refine region_p 14 (B := [(1, _), (2, _), (4, _), (5, _), (8, _), (9, _), (10, _), (100, _), (101, _), (102, _), (103, _)]) (m100.to ⟨il, il, il, il, il, il, il, il, il, il, il, trivial⟩) m100 (by kernel_rfl) (fun w101 hP101 m101 => ?_); clear m100
    refine goA hP101 [0, 1, 2] 3 0 7 Hz (m101.to ⟨il, il, il, il, il, il, il, il, il, il, il, trivial⟩) (.move rfl <| .move rfl <| .move rfl .nil) fun Az Hz => ?_
    have hcap106 := Rd.capL (m101.rd (i := 8) rfl)
    have m105 := m101.takeR (i := 8) rfl k hkl 104 rfl
    refine goR hP101 [3, 5, 8, 9] [5] 4 7 815 Hz (m105.to ⟨il, il, il, il, il, il, il, il, il, il, il, trivial⟩) (.p (fun _ _ h_ => y_sliceHn h_ k rfl rfl U118 fct24 rfl (Nat.le_trans hkl hcap106)) <| .loadBR hh (i := 9) rfl rfl U34 rfl fct24 (by simp) (by dsimp only [List.drop, List.take] <;> rfl) <| .move rfl <| .move rfl .nil) fun Az Hz => ?_
    have m111 := m105.dropR (i := 8) rfl k hkl 105 rfl
    refine goA hP101 [10] 1 815 1839 Hz (m111.to ⟨il, il, il, il, il, il, il, il, il, il, il, trivial⟩) (.p (fun _ _ h_ => y_sliceLn h_ k rfl rfl U118 fct24 rfl hkl) .nil) fun Az Hz => ?_
    refine d_two 4 6 rfl rfl (by kernel_rfl) rfl rfl (fun K hK => ?_) (fun K hK => ?_)
    ·
     have m113 := m111.nilR 106 34 11
     refine e_appR Hz m113 106 rfl rfl rfl (m113.rd (i := 104) rfl) U118 fct43 rfl rfl (by decide) (by simp; omega) rfl ?_
     intro p114 c114 Az w115 Hz m115
     refine hK _ _ (fun _ => (m115.to ⟨il, il, il, il, il, il, il, il, il, il, il, trivial⟩)) ?_; clear hK K
     refine so 6 ?_
     refine e_litR Hz m115 107 (mm := 11) rfl (.cons rfl rfl (.cons (.v _) (.cons (.v _) (.cons (.v _) (.cons (.v _) (.cons (m115.rd (i := 10) rfl) (.cons (.v _) (.cons (.v _) (.cons (.v _) (.cons (.v _) (.cons (Rd.nilN _ _ .i64 _) (.cons (.l0 _ _ 2) .nil))))))))))) .nil) U118 fct43 rfl rfl rfl rfl rfl fun g116 Az w117 Hz m117 => ?_
     refine ⟨m117.to ⟨il, il, il, il, il, il, il, il, il, il, il, trivial⟩, ?_⟩
     have m119 := m117.freezeR 107 rfl
     refine so 7 ?_
     refine e_appR Hz m119 106 rfl rfl rfl (m119.rd (i := 107) rfl) U118 fct43 rfl rfl (by decide) (by simp; omega) rfl fun p118 c118 Az w120 Hz m120 => ?_
     refine ⟨m120.to ⟨il, il, il, il, il, il, il, il, il, il, il, trivial⟩, ?_⟩
     refine so 11 ?_
     refine e_appR Hz m120 106 rfl rfl rfl (m120.rd (i := 105) rfl) U118 fct43 rfl rfl (by decide) (by simp; omega) rfl fun p121 c121 Az w122 Hz m122 => ?_
     refine ⟨m122.to ⟨il, il, il, il, il, il, il, il, il, il, il, trivial⟩, ?_⟩
     refine goA hP101 [12, 13] 2 4095 16383 Hz (m122.to ⟨il, il, il, il, il, il, il, il, il, il, il, trivial⟩) (.nilCheck rfl <| .fa 0 rfl U120 .nil) fun Az Hz => ?_
     refine se 14 ?_
     refine st1 Hz m122 1 fct44 fun w125 m125 _ => ?_
     refine wpAnyE_done (by kernel_rfl) ?_ _
     refine hK15 _ _ ?_
     replace Hz := Hz.oz [0, 4, 5, 7, 8, 9]
     refine zsr fun K16 hK16 => ?_
     refine goCh Hz (.build rfl fct29 fl128mA rfl (by dsimp only [setL, List.set] <;> rfl) .nil) fun Az Hz => ?_
     refine plz (stw Hz m125 4 fct28 fun w129 m129 _ => ?_)
     refine znl (hK16 _ _ ?_)
     refine rtd (retC (fn := Tryz.f75) Hz m129 (i := 4) rfl rfl rfl U128 rfl fct28 ?_)
     have m130 := m129.freezeR 106 rfl
     have hrw : [] ++ List.take k (L.map volD) ++ [[.v (.int .i64 (newV vo bl sz pe to place).vo), .v (.int .i64 (newV vo bl sz pe to place).bl), .v (.int .i64 (newV vo bl sz pe to place).sz), .v (.int .i64 (newV vo bl sz pe to place).pe), .ns .i64 (newV vo bl sz pe to place).place, .v (.int .i64 (newV vo bl sz pe to place).to), .v (.int .i64 (newV vo bl sz pe to place).ne), .v (.bool (newV vo bl sz pe to place).hi), .v (.int .i64 (newV vo bl sz pe to place).fl), .ns .i64 (newV vo bl sz pe to place).pins, .l 2 ((newV vo bl sz pe to place).ws.map wrD)]] ++ List.drop k (L.map volD) = (L.take k ++ [newV vo bl sz pe to place] ++ L.drop k).map volD := by simp [volD, newV]
     simp only [newV] at hrw
     erw [hrw] at m130
     exact ⟨_, _, _, _, L.take k ++ [newV vo bl sz pe to place] ++ L.drop k, _, _, rfl, hM.ins (newV_s hN) k, m130.ren [(1, 1), (2, 106)] (by decide)⟩
    refine e_litR Hz m111 106 (mm := 11) rfl (.cons rfl rfl (.cons (.v _) (.cons (.v _) (.cons (.v _) (.cons (.v _) (.cons (m111.rd (i := 10) rfl) (.cons (.v _) (.cons (.v _) (.cons (.v _) (.cons (.v _) (.cons (Rd.nilN _ _ .i64 _) (.cons (.l0 _ _ 2) .nil))))))))))) .nil) U118 fct43 rfl rfl rfl rfl rfl ?_
    intro g131 Az w132 Hz m132
    refine hK _ _ (fun _ => (m132.to ⟨il, il, il, il, il, il, il, il, il, il, il, trivial⟩)) ?_; clear hK K
    have m133 := m132.nilR 107 34 11
    refine so 4 ?_
    refine e_appR Hz m133 107 rfl rfl rfl (m133.rd (i := 104) rfl) U118 fct43 rfl rfl (by decide) (by simp; omega) rfl fun p134 c134 Az w135 Hz m135 => ?_
    refine ⟨m135.to ⟨il, il, il, il, il, il, il, il, il, il, il, trivial⟩, ?_⟩
    have m137 := m135.freezeR 106 rfl
    refine so 7 ?_
    refine e_appR Hz m137 107 rfl rfl rfl (m137.rd (i := 106) rfl) U118 fct43 rfl rfl (by decide) (by simp; omega) rfl fun p136 c136 Az w138 Hz m138 => ?_
    refine ⟨m138.to ⟨il, il, il, il, il, il, il, il, il, il, il, trivial⟩, ?_⟩
    refine so 11 ?_
    refine e_appR Hz m138 107 rfl rfl rfl (m138.rd (i := 105) rfl) U118 fct43 rfl rfl (by decide) (by simp; omega) rfl fun p139 c139 Az w140 Hz m140 => ?_
    refine ⟨m140.to ⟨il, il, il, il, il, il, il, il, il, il, il, trivial⟩, ?_⟩
    refine goA hP101 [12, 13] 2 4095 16383 Hz (m140.to ⟨il, il, il, il, il, il, il, il, il, il, il, trivial⟩) (.nilCheck rfl <| .fa 0 rfl U120 .nil) fun Az Hz => ?_
    refine se 14 ?_
    refine st1 Hz m140 1 fct44 fun w143 m143 _ => ?_
    refine wpAnyE_done (by kernel_rfl) ?_ _
    refine hK15 _ _ ?_
    replace Hz := Hz.oz [0, 4, 5, 7, 8, 9]
    refine zsr fun K17 hK17 => ?_
    refine goCh Hz (.build rfl fct29 fl128mA rfl (by dsimp only [setL, List.set] <;> rfl) .nil) fun Az Hz => ?_
    refine plz (stw Hz m143 4 fct28 fun w147 m147 _ => ?_)
    refine znl (hK17 _ _ ?_)
    refine rtd (retC (fn := Tryz.f75) Hz m147 (i := 4) rfl rfl rfl U128 rfl fct28 ?_)
    have m148 := m147.freezeR 107 rfl
    have hrw : [] ++ List.take k (L.map volD) ++ [[.v (.int .i64 (newV vo bl sz pe to place).vo), .v (.int .i64 (newV vo bl sz pe to place).bl), .v (.int .i64 (newV vo bl sz pe to place).sz), .v (.int .i64 (newV vo bl sz pe to place).pe), .ns .i64 (newV vo bl sz pe to place).place, .v (.int .i64 (newV vo bl sz pe to place).to), .v (.int .i64 (newV vo bl sz pe to place).ne), .v (.bool (newV vo bl sz pe to place).hi), .v (.int .i64 (newV vo bl sz pe to place).fl), .ns .i64 (newV vo bl sz pe to place).pins, .l 2 ((newV vo bl sz pe to place).ws.map wrD)]] ++ List.drop k (L.map volD) = (L.take k ++ [newV vo bl sz pe to place] ++ L.drop k).map volD := by simp [volD, newV]
    simp only [newV] at hrw
    erw [hrw] at m148
    exact ⟨_, _, _, _, L.take k ++ [newV vo bl sz pe to place] ++ L.drop k, _, _, rfl, hM.ins (newV_s hN) k, m148.ren [(1, 1), (2, 107)] (by decide)⟩
   have m149 := m72.oz [1, 2, 4, 5, 8, 9, 10]
   refine region_p 14 (B := [(1, _), (2, _), (4, _), (5, _), (8, _), (9, _), (10, _)]) (m149.to ⟨il, il, il, il, il, il, il, trivial⟩) m149 (by kernel_rfl) (fun w150 hP150 m150 => ?_); clear m149
   refine goA hP150 [0, 1, 2, 3, 4] 5 0 31 Hz (m150.to ⟨il, il, il, il, il, il, il, trivial⟩) (.move rfl <| .move rfl <| .len rfl U118 <| .lss rfl rfl <| .move rfl .nil) fun Az Hz => ?_
   refine bc Hz 49 ?_ ?_
   · intro hb _; exact absurd hb (by simpa using hk)
   clear Hz; intro _ Hz
   refine goA hP150 [5, 6, 7, 8, 9, 10, 11, 12, 13] 9 31 16383 Hz (m150.to ⟨il, il, il, il, il, il, il, trivial⟩) (.s <| .s <| .s <| .s <| .s <| .s <| .s <| .s <| .pickF rfl rfl .nil) fun Az Hz => ?_
   refine wpAnyE_done (by kernel_rfl) ?_ _
   refine hK14 _ _ ?_
   refine wcf Hz ?_
   refine wp_exit ?_
   refine hK12 _ _ ?_
   refine wsk fun K18 hK18 => ?_
   replace Hz := Hz.oz [0, 4, 5, 7, 8, 9]
   have m167 := m150.oz [1, 2, 4, 5, 8, 9, 10]
   refine region_p 14 (B := [(1, _), (2, _), (4, _), (5, _), (8, _), (9, _), (10, _)]) (m167.to ⟨il, il, il, il, il, il, il, trivial⟩) m167 (by kernel_rfl) (fun w168 hP168 m168 => ?_); clear m167
   refine goA hP168 [0, 1, 2] 3 0 7 Hz (m168.to ⟨il, il, il, il, il, il, il, trivial⟩) (.move rfl <| .move rfl <| .move rfl .nil) fun Az Hz => ?_
   have hcap173 := Rd.capL (m168.rd (i := 8) rfl)
   have m172 := m168.takeR (i := 8) rfl k hkl 100 rfl
   refine goR hP168 [3, 5, 8, 9] [5] 4 7 815 Hz (m172.to ⟨il, il, il, il, il, il, il, trivial⟩) (.p (fun _ _ h_ => y_sliceHn h_ k rfl rfl U118 fct24 rfl (Nat.le_trans hkl hcap173)) <| .loadBR hh (i := 9) rfl rfl U34 rfl fct24 (by simp) (by dsimp only [List.drop, List.take] <;> rfl) <| .move rfl <| .move rfl .nil) fun Az Hz => ?_
   have m178 := m172.dropR (i := 8) rfl k hkl 101 rfl
   refine goA hP168 [10] 1 815 1839 Hz (m178.to ⟨il, il, il, il, il, il, il, trivial⟩) (.p (fun _ _ h_ => y_sliceLn h_ k rfl rfl U118 fct24 rfl hkl) .nil) fun Az Hz => ?_
   refine d_two 4 6 rfl rfl (by kernel_rfl) rfl rfl (fun K hK => ?_) (fun K hK => ?_)
   ·
    have m180 := m178.nilR 102 34 11
    refine e_appR Hz m180 102 rfl rfl rfl (m180.rd (i := 100) rfl) U118 fct43 rfl rfl (by decide) (by simp; omega) rfl ?_
    intro p181 c181 Az w182 Hz m182
    refine hK _ _ (fun _ => (m182.to ⟨il, il, il, il, il, il, il, trivial⟩)) ?_; clear hK K
    refine so 6 ?_
    refine e_litR Hz m182 103 (mm := 11) rfl (.cons rfl rfl (.cons (.v _) (.cons (.v _) (.cons (.v _) (.cons (.v _) (.cons (m182.rd (i := 10) rfl) (.cons (.v _) (.cons (.v _) (.cons (.v _) (.cons (.v _) (.cons (Rd.nilN _ _ .i64 _) (.cons (.l0 _ _ 2) .nil))))))))))) .nil) U118 fct43 rfl rfl rfl rfl rfl fun g183 Az w184 Hz m184 => ?_
    refine ⟨m184.to ⟨il, il, il, il, il, il, il, trivial⟩, ?_⟩
    have m186 := m184.freezeR 103 rfl
    refine so 7 ?_
    refine e_appR Hz m186 102 rfl rfl rfl (m186.rd (i := 103) rfl) U118 fct43 rfl rfl (by decide) (by simp; omega) rfl fun p185 c185 Az w187 Hz m187 => ?_
    refine ⟨m187.to ⟨il, il, il, il, il, il, il, trivial⟩, ?_⟩
    refine so 11 ?_
    refine e_appR Hz m187 102 rfl rfl rfl (m187.rd (i := 101) rfl) U118 fct43 rfl rfl (by decide) (by simp; omega) rfl fun p188 c188 Az w189 Hz m189 => ?_
    refine ⟨m189.to ⟨il, il, il, il, il, il, il, trivial⟩, ?_⟩
    refine goA hP168 [12, 13] 2 4095 16383 Hz (m189.to ⟨il, il, il, il, il, il, il, trivial⟩) (.nilCheck rfl <| .fa 0 rfl U120 .nil) fun Az Hz => ?_
    refine se 14 ?_
    refine st1 Hz m189 1 fct44 fun w192 m192 _ => ?_
    refine wpAnyE_done (by kernel_rfl) ?_ _
    refine hK18 _ _ ?_
    replace Hz := Hz.oz [0, 4, 5, 7, 8, 9]
    refine zsr fun K19 hK19 => ?_
    refine goCh Hz (.build rfl fct29 fl128mA rfl (by dsimp only [setL, List.set] <;> rfl) .nil) fun Az Hz => ?_
    refine plz (stw Hz m192 4 fct28 fun w196 m196 _ => ?_)
    refine znl (hK19 _ _ ?_)
    refine rtd (retC (fn := Tryz.f75) Hz m196 (i := 4) rfl rfl rfl U128 rfl fct28 ?_)
    have m197 := m196.freezeR 102 rfl
    have hrw : [] ++ List.take k (L.map volD) ++ [[.v (.int .i64 (newV vo bl sz pe to place).vo), .v (.int .i64 (newV vo bl sz pe to place).bl), .v (.int .i64 (newV vo bl sz pe to place).sz), .v (.int .i64 (newV vo bl sz pe to place).pe), .ns .i64 (newV vo bl sz pe to place).place, .v (.int .i64 (newV vo bl sz pe to place).to), .v (.int .i64 (newV vo bl sz pe to place).ne), .v (.bool (newV vo bl sz pe to place).hi), .v (.int .i64 (newV vo bl sz pe to place).fl), .ns .i64 (newV vo bl sz pe to place).pins, .l 2 ((newV vo bl sz pe to place).ws.map wrD)]] ++ List.drop k (L.map volD) = (L.take k ++ [newV vo bl sz pe to place] ++ L.drop k).map volD := by simp [volD, newV]
    simp only [newV] at hrw
    erw [hrw] at m197
    exact ⟨_, _, _, _, L.take k ++ [newV vo bl sz pe to place] ++ L.drop k, _, _, rfl, hM.ins (newV_s hN) k, m197.ren [(1, 1), (2, 102)] (by decide)⟩
   refine e_litR Hz m178 102 (mm := 11) rfl (.cons rfl rfl (.cons (.v _) (.cons (.v _) (.cons (.v _) (.cons (.v _) (.cons (m178.rd (i := 10) rfl) (.cons (.v _) (.cons (.v _) (.cons (.v _) (.cons (.v _) (.cons (Rd.nilN _ _ .i64 _) (.cons (.l0 _ _ 2) .nil))))))))))) .nil) U118 fct43 rfl rfl rfl rfl rfl ?_
   intro g198 Az w199 Hz m199
   refine hK _ _ (fun _ => (m199.to ⟨il, il, il, il, il, il, il, trivial⟩)) ?_; clear hK K
   have m200 := m199.nilR 103 34 11
   refine so 4 ?_
   refine e_appR Hz m200 103 rfl rfl rfl (m200.rd (i := 100) rfl) U118 fct43 rfl rfl (by decide) (by simp; omega) rfl fun p201 c201 Az w202 Hz m202 => ?_
   refine ⟨m202.to ⟨il, il, il, il, il, il, il, trivial⟩, ?_⟩
   have m204 := m202.freezeR 102 rfl
   refine so 7 ?_
   refine e_appR Hz m204 103 rfl rfl rfl (m204.rd (i := 102) rfl) U118 fct43 rfl rfl (by decide) (by simp; omega) rfl fun p203 c203 Az w205 Hz m205 => ?_
   refine ⟨m205.to ⟨il, il, il, il, il, il, il, trivial⟩, ?_⟩
   refine so 11 ?_
   refine e_appR Hz m205 103 rfl rfl rfl (m205.rd (i := 101) rfl) U118 fct43 rfl rfl (by decide) (by simp; omega) rfl fun p206 c206 Az w207 Hz m207 => ?_
   refine ⟨m207.to ⟨il, il, il, il, il, il, il, trivial⟩, ?_⟩
   refine goA hP168 [12, 13] 2 4095 16383 Hz (m207.to ⟨il, il, il, il, il, il, il, trivial⟩) (.nilCheck rfl <| .fa 0 rfl U120 .nil) fun Az Hz => ?_
   refine se 14 ?_
   refine st1 Hz m207 1 fct44 fun w210 m210 _ => ?_
   refine wpAnyE_done (by kernel_rfl) ?_ _
   refine hK18 _ _ ?_
   replace Hz := Hz.oz [0, 4, 5, 7, 8, 9]
   refine zsr fun K20 hK20 => ?_
   refine goCh Hz (.build rfl fct29 fl128mA rfl (by dsimp only [setL, List.set] <;> rfl) .nil) fun Az Hz => ?_
   refine plz (stw Hz m210 4 fct28 fun w214 m214 _ => ?_)
   refine znl (hK20 _ _ ?_)
   refine rtd (retC (fn := Tryz.f75) Hz m214 (i := 4) rfl rfl rfl U128 rfl fct28 ?_)
   have m215 := m214.freezeR 103 rfl
   have hrw : [] ++ List.take k (L.map volD) ++ [[.v (.int .i64 (newV vo bl sz pe to place).vo), .v (.int .i64 (newV vo bl sz pe to place).bl), .v (.int .i64 (newV vo bl sz pe to place).sz), .v (.int .i64 (newV vo bl sz pe to place).pe), .ns .i64 (newV vo bl sz pe to place).place, .v (.int .i64 (newV vo bl sz pe to place).to), .v (.int .i64 (newV vo bl sz pe to place).ne), .v (.bool (newV vo bl sz pe to place).hi), .v (.int .i64 (newV vo bl sz pe to place).fl), .ns .i64 (newV vo bl sz pe to place).pins, .l 2 ((newV vo bl sz pe to place).ws.map wrD)]] ++ List.drop k (L.map volD) = (L.take k ++ [newV vo bl sz pe to place] ++ L.drop k).map volD := by simp [volD, newV]
   simp only [newV] at hrw
   erw [hrw] at m215
   exact ⟨_, _, _, _, L.take k ++ [newV vo bl sz pe to place] ++ L.drop k, _, _, rfl, hM.ins (newV_s hN) k, m215.ren [(1, 1), (2, 103)] (by decide)⟩
  refine wp_region_lit ?_
  refine goCh Hz (.loadBR m49 (i := 23) rfl rfl U125 rfl fct27 (by simp) (by dsimp only [List.drop, List.take] <;> rfl) .nil) fun Az Hz => ?_
  refine plz (ecb Hz Tryz.func76 rfl m49 (rnew_non _ vo bl sz pe to _ _ place _ _ _ _ _ _ ((m49.rd (i := 21) rfl).any) (by omega) hN) fun Az w217 Hz m218 => ?_)
  refine goCh Hz (.move rfl <| .extract rfl rfl <| .extract rfl rfl .nil) fun Az Hz => ?_
  refine plz (e_alloc Hz m218 25 fct26 rfl fun g223 Az w224 Hz m224 _ _ => ?_)
  refine plz (stw Hz m224 25 fct24 fun w225 m225 _ => ?_)
  refine gz hK10 Hz (.assign rfl .nil) fun Az Hz => ?_
  refine wsk fun K21 hK21 => ?_
  replace Hz := Hz.oz [0, 4, 5, 7, 8, 9, 10]
  refine regS Hz (.move rfl <| .neq rfl rfl .nil) fun Az Hz => ?_
  refine bc Hz 42 ?_ ?_
  rotate_left
  · intro hb _; exact absurd hb (by simp)
  clear Hz; intro _ Hz
  refine wct Hz ?_
  refine zsr fun K22 hK22 => ?_
  refine goCh Hz (.move rfl <| .build rfl fct29 fl128mA rfl (by dsimp only [setL, List.set] <;> rfl) .nil) fun Az Hz => ?_
  refine plz (stw Hz m225 20 fct28 fun w235 m235 _ => ?_)
  refine znl (hK22 _ _ ?_)
  refine rtd (retC (fn := Tryz.f75) Hz m235 (i := 20) rfl rfl rfl U128 rfl fct28 ?_)
  exact ⟨_, _, _, _, L, _, _, rfl, hM.up (by omega), m235.only [1, 2]⟩
 intro hb46 Hz; try simp only [QQ, Qax] at hb46
 refine wcf Hz ?_
 refine zss (hK6 _ _ ?_)
 refine wsk fun K23 hK23 => ?_
 replace Hz := Hz.oz [0, 4, 5, 7, 8]
 refine regS Hz (.move rfl <| .lss rfl rfl .nil) fun Az Hz => ?_
 refine bc Hz 77 ?_ ?_
 ·
  intro hb239 Hz; try simp only [QQ, Qax] at hb239
  refine wct Hz ?_
  refine zsr fun K24 hK24 => ?_
  refine goCh Hz (.build rfl fct29 fl128mA rfl (by dsimp only [setL, List.set] <;> rfl) .nil) fun Az Hz => ?_
  refine plz (stw Hz m41 20 fct28 fun w242 m242 _ => ?_)
  refine znl (hK24 _ _ ?_)
  refine rtd (retC (fn := Tryz.f75) Hz m242 (i := 20) rfl rfl rfl U128 rfl fct28 ?_)
  exact ⟨_, _, _, _, L, _, _, rfl, hM.up (by omega), m242.only [1, 2]⟩
 intro hb239 Hz; try simp only [QQ, Qax] at hb239
 revert Hz
 obtain ⟨jn, rfl⟩ : ∃ jn : Nat, j = (jn : Int) := ⟨j.toNat, by omega⟩
 intro Hz
 have hjl : jn < L.length := by omega
 obtain ⟨x, hes⟩ : ∃ x, L[jn]? = some x := ⟨_, List.getElem?_eq_getElem hjl⟩
 refine wcf Hz ?_
 refine zss (hK23 _ _ ?_)
 refine wsk fun K25 hK25 => ?_
 have hC25 : ∀ (a : Act) (w : World), (∃ (y : VolV) (e9 rl rf rn : Int) (B4 B11 B12 c8 d1 d2 d3 : Nat) (p8 p1 p2 p3 : Option Addr), VolS (n + 1) y ∧ Has 97 [(0, .pointer (some ⟨B, 0, none⟩)), (4, .pointer (some ⟨B4, 0, none⟩)), (7, .int .i64 jn), (8, .slice p8 ([] ++ (L.map volD)).length c8), (11, .pointer (some ⟨B11, 0, none⟩)), (12, .pointer (some ⟨B12, 0, none⟩))] a ∧ MemOk X w0 [(1, .box B 120 [.slice p (L.map volD).length c]), (2, .dat (.slice p (L.map volD).length c) (.l 11 (L.map volD))), (4, .box B4 128 [.int .i64 0, .int .i64 0, .int .i64 0, .int .i64 0, .slice none 0 0]), (8, .row (.slice p8 ([] ++ (L.map volD)).length c8) 34 11 ([] ++ (L.map volD))), (11, .box B11 34 [.int .i64 y.vo, .int .i64 y.bl, .int .i64 y.sz, .int .i64 y.pe, .slice p1 y.place.length d1, .int .i64 y.to, .int .i64 y.ne, .bool y.hi, .int .i64 y.fl, .slice p2 y.pins.length d2, .slice p3 (y.ws.map wrD).length d3]), (12, .box B12 128 [.int .i64 e9, .int .i64 rl, .int .i64 rf, .int .i64 rn, .slice none 0 0]), (13, .dat (.slice p1 y.place.length d1) (.ns .i64 y.place)), (14, .dat (.slice p2 y.pins.length d2) (.ns .i64 y.pins)), (15, .dat (.slice p3 (y.ws.map wrD).length d3) (.l 2 (y.ws.map wrD)))] w) → K25 a w := by
   clear Hz m41
   rintro Az w243 ⟨y, e9, rl, rf, rn, B4, B11, B12, c8, d1, d2, d3, p8, p1, p2, p3, hyS, Hz, m243⟩
   refine hK25 _ _ ?_
   refine zsr fun K26 hK26 => ?_
   refine goCh Hz (.move rfl <| .move rfl <| .loadBR m243 (i := 11) rfl rfl U34 rfl fct24 (by simp) (by dsimp only [List.drop, List.take] <;> rfl) .nil) fun Az Hz => ?_
   obtain ⟨gr251, cr251, hp251, _⟩ := m243.openC (i := 8) rfl (Nat.lt_of_le_of_lt (Nat.zero_le jn) (by simpa using hjl)); cases hp251
   refine goCh Hz (.c rfl (fun _ h_ => y_idx h_ rfl rfl U118 fct24 (jn) rfl (by simpa using hjl)) .nil) fun Az Hz => ?_
   refine plz (e_storeRW Hz m243 8 rfl (jn) (by simpa using hjl) rfl rfl rfl rfl rfl fct24 (.cons (.v _) (.cons (.v _) (.cons (.v _) (.cons (.v _) (.cons (m243.rd (i := 13) rfl) (.cons (.v _) (.cons (.v _) (.cons (.v _) (.cons (.v _) (.cons (m243.rd (i := 14) rfl) (.cons (m243.rd (i := 15) rfl) .nil))))))))))) fun w253 m253 => ?_)
   refine znl (hK26 _ _ ?_)
   replace Hz := Hz.oz [0, 4, 8, 12]
   refine zsr fun K27 hK27 => ?_
   refine goCh Hz (.move rfl <| .move rfl <| .nilCheck rfl <| .fa 0 rfl U120 .nil) fun Az Hz => ?_
   refine plz (st1 Hz m253 1 fct44 fun w263 m263 _ => ?_)
   refine znl (hK27 _ _ ?_)
   replace Hz := Hz.oz [4, 12]
   refine zsr fun K28 hK28 => ?_
   refine goCh Hz (.loadBR m263 (i := 12) rfl rfl U128 rfl fct28 (by simp) (by dsimp only [List.drop, List.take] <;> rfl) .nil) fun Az Hz => ?_
   refine plz (stw Hz m263 4 fct28 fun w267 m267 _ => ?_)
   refine znl (hK28 _ _ ?_)
   refine rtd (retC (fn := Tryz.f75) Hz m267 (i := 4) rfl rfl rfl U128 rfl fct28 ?_)
   have m268 := m267.freezeR 8 rfl
   have hrw : ([] ++ (L.map volD)).set jn [.v (.int .i64 y.vo), .v (.int .i64 y.bl), .v (.int .i64 y.sz), .v (.int .i64 y.pe), .ns .i64 y.place, .v (.int .i64 y.to), .v (.int .i64 y.ne), .v (.bool y.hi), .v (.int .i64 y.fl), .ns .i64 y.pins, .l 2 (y.ws.map wrD)] = (L.set jn y).map volD := by rw [List.nil_append, List.map_set]; rfl
   have hln : ([] ++ (L.map volD)).length = ((L.set jn y).map volD).length := by simp
   rw [hrw, hln] at m268
   exact ⟨_, _, _, _, L.set jn y, _, _, rfl, hM.set hyS jn, m268.ren [(1, 1), (2, 8)] (by decide)⟩
 obtain ⟨gr270, cr270, hp270, m270⟩ := m41.openC (i := 24) rfl (Nat.lt_of_le_of_lt (Nat.zero_le (jn)) (by simpa using hjl))
 revert Hz
 cases hp270
 intro Hz
 obtain ⟨vs271, hc271, hR271⟩ := m270.eltC (i := 24) rfl (jn) (r := [.v (.int .i64 x.vo), .v (.int .i64 x.bl), .v (.int .i64 x.sz), .v (.int .i64 x.pe), .ns .i64 x.place, .v (.int .i64 x.to), .v (.int .i64 x.ne), .v (.bool x.hi), .v (.int .i64 x.fl), .ns .i64 x.pins, .l 2 (x.ws.map wrD)]) (by simpa using volD_get hes)
 revert Hz
 rcases hR271 with _ | ⟨hd271_0, _ | ⟨hd271_1, _ | ⟨hd271_2, _ | ⟨hd271_3, _ | ⟨hd271_4, _ | ⟨hd271_5, _ | ⟨hd271_6, _ | ⟨hd271_7, _ | ⟨hd271_8, _ | ⟨hd271_9, _ | ⟨hd271_10, _ | _⟩⟩⟩⟩⟩⟩⟩⟩⟩⟩⟩
 obtain rfl := hd271_0.v_out
 clear hd271_0
 obtain rfl := hd271_1.v_out
 clear hd271_1
 obtain rfl := hd271_2.v_out
 clear hd271_2
 obtain rfl := hd271_3.v_out
 clear hd271_3
 obtain ⟨p272, c272, hv272, hw272⟩ := hd271_4.ns_shape; subst hv272
 intro Hz
 have m272 := m270.dat 25 rfl (hd271_4.cast (fun _ h => h)); clear m270 hd271_4
 revert Hz
 obtain rfl := hd271_5.v_out
 clear hd271_5
 obtain rfl := hd271_6.v_out
 clear hd271_6
 obtain rfl := hd271_7.v_out
 clear hd271_7
 obtain rfl := hd271_8.v_out
 clear hd271_8
 obtain ⟨p273, c273, hv273, hw273⟩ := hd271_9.ns_shape; subst hv273
 intro Hz
 have m273 := m272.dat 26 rfl (hd271_9.cast (fun _ h => (free_add rfl h))); clear m272 hd271_9
 revert Hz
 obtain ⟨p274, c274, hv274, hw274⟩ := hd271_10.l_shape; subst hv274
 intro Hz
 have m274 := m273.dat 27 rfl (hd271_10.cast (fun _ h => (free_add rfl (free_add rfl h)))); clear m273 hd271_10
 have m275 := m274.oz [1, 2, 20, 21, 22, 23, 24, 25, 26, 27]
 refine region_p 5 (B := [(1, _), (2, _), (20, _), (21, _), (22, _), (23, _), (24, _), (25, _), (26, _), (27, _)]) (m275.to ⟨il, il, il, il, il, il, il, il, il, il, trivial⟩) m275 (by kernel_rfl) (fun w276 hP276 m276 => ?_); clear m275
 refine goR hP276 [0, 1, 2, 3, 4] [3, 4] 5 0 31 Hz (m276.to ⟨il, il, il, il, il, il, il, il, il, il, trivial⟩) (.move rfl <| .move rfl <| .p (fun _ _ h_ => y_idx h_ rfl rfl U118 fct24 (jn) rfl (by simpa using hjl)) <| .c (fun _ hW _ h_ => y_loadRC h_ hW (i := 24) rfl (jn) hc271 rfl U34 rfl fct24) <| .loadBR hh (i := 23) rfl rfl U125 rfl fct27 (by simp) (by dsimp only [List.drop, List.take] <;> rfl) .nil) fun Az Hz => ?_
 refine dth 5 9 10 ?_ ?_ ?_
 ·
  refine ecl Hz Tryz.func109 rfl (rDoAny _ x n (hM.2 _ (List.mem_of_getElem? hes)) hn items _ _ _ _ _ _ _ _ _ _ _ _ _ _ _ _ _ _ _ _ (by omega) (fun e he => itok (hii e he).1) (fun e he => (hii e he).2) (m276.into [(1, 25), (2, 26), (3, 27), (4, 22)] (by decide) rfl)) ?_
  rintro e w282 ⟨y, e9, rl, rf, rn, p1282, p2282, p3282, d1282, d2282, d3282, rfl, hyo, hyS, hm282⟩
  have mx282 := m276.back hm282 [(28, 1), (29, 2), (30, 3)] (by decide); clear hm282 m276
  have m282 := mx282.oz [28, 29, 30, 1, 2, 20, 21, 23, 24]
  refine ⟨_, rfl, ?_⟩; intro Az Hz
  refine ⟨fun h => (Bool.false_ne_true (h.symm.trans (by rfl))).elim, ?_⟩
  refine goB hP276 [6, 7, 8] 3 63 511 Hz (.move rfl <| .extract rfl rfl <| .extract rfl rfl .nil) fun Az Hz => ?_
  refine dtw 9 10 ?_ ?_
  ·
   refine e_alloc Hz m282 31 fct26 rfl fun g287 Az w288 Hz m288 _ _ => ?_
   refine ⟨fun h => (Bool.false_ne_true (h.symm.trans (by rfl))).elim, ?_⟩
   refine se 10 ?_
   refine e_alloc Hz m288 32 fct29 rfl fun g289 Az w290 Hz m290 _ _ => ?_
   refine se 11 ?_
   refine stw Hz m290 31 fct24 fun w291 m291 _ => ?_
   refine se 12 ?_
   refine stw Hz m291 32 fct28 fun w292 m292 _ => ?_
   refine wpAnyE_done (by kernel_rfl) ?_ _
   have m293 := m292.closeC 24 rfl
   show K25 _ _
   exact hC25 _ _ ⟨y, _, _, _, _, _, _, _, _, _, _, _, _, _, _, _, hyS, Hz.only [0, 4, 7, 8, 11, 12], m293.ren [(1, 1), (2, 2), (4, 20), (8, 24), (11, 31), (12, 32), (13, 28), (14, 29), (15, 30)] (by decide)⟩
  refine e_alloc Hz m282 31 fct29 rfl fun g294 Az w295 Hz m295 _ _ => ?_
  refine ⟨fun h => (Bool.false_ne_true (h.symm.trans (by rfl))).elim, ?_⟩
  refine se 9 ?_
  refine e_alloc Hz m295 32 fct26 rfl fun g296 Az w297 Hz m297 _ _ => ?_
  refine se 11 ?_
  refine stw Hz m297 32 fct24 fun w298 m298 _ => ?_
  refine se 12 ?_
  refine stw Hz m298 31 fct28 fun w299 m299 _ => ?_
  refine wpAnyE_done (by kernel_rfl) ?_ _
  have m300 := m299.closeC 24 rfl
  show K25 _ _
  exact hC25 _ _ ⟨y, _, _, _, _, _, _, _, _, _, _, _, _, _, _, _, hyS, Hz.only [0, 4, 7, 8, 11, 12], m300.ren [(1, 1), (2, 2), (4, 20), (8, 24), (11, 32), (12, 31), (13, 28), (14, 29), (15, 30)] (by decide)⟩
 ·
  refine e_alloc Hz m276 28 fct26 rfl fun g301 Az w302 Hz m302 _ _ => ?_
  refine ⟨fun _ => (m302.to ⟨il, il, il, il, il, il, il, il, il, il, trivial⟩), ?_⟩
  refine dtw 5 10 ?_ ?_
  ·
   refine ecl Hz Tryz.func109 rfl (rDoAny _ x n (hM.2 _ (List.mem_of_getElem? hes)) hn items _ _ _ _ _ _ _ _ _ _ _ _ _ _ _ _ _ _ _ _ (by omega) (fun e he => itok (hii e he).1) (fun e he => (hii e he).2) (m302.into [(1, 25), (2, 26), (3, 27), (4, 22)] (by decide) rfl)) ?_
   rintro e w303 ⟨y, e9, rl, rf, rn, p1303, p2303, p3303, d1303, d2303, d3303, rfl, hyo, hyS, hm303⟩
   have mx303 := m302.back hm303 [(29, 1), (30, 2), (31, 3)] (by decide); clear hm303 m302
   have m303 := mx303.oz [29, 30, 31, 1, 2, 20, 21, 23, 24, 28]
   refine ⟨_, rfl, ?_⟩; intro Az Hz
   refine ⟨fun h => (Bool.false_ne_true (h.symm.trans (by rfl))).elim, ?_⟩
   refine goB hP276 [6, 7, 8] 3 575 1023 Hz (.move rfl <| .extract rfl rfl <| .extract rfl rfl .nil) fun Az Hz => ?_
   refine se 10 ?_
   refine e_alloc Hz m303 32 fct29 rfl fun g308 Az w309 Hz m309 _ _ => ?_
   refine se 11 ?_
   refine stw Hz m309 28 fct24 fun w310 m310 _ => ?_
   refine se 12 ?_
   refine stw Hz m310 32 fct28 fun w311 m311 _ => ?_
   refine wpAnyE_done (by kernel_rfl) ?_ _
   have m312 := m311.closeC 24 rfl
   show K25 _ _
   exact hC25 _ _ ⟨y, _, _, _, _, _, _, _, _, _, _, _, _, _, _, _, hyS, Hz.only [0, 4, 7, 8, 11, 12], m312.ren [(1, 1), (2, 2), (4, 20), (8, 24), (11, 28), (12, 32), (13, 29), (14, 30), (15, 31)] (by decide)⟩
  refine e_alloc Hz m302 29 fct29 rfl fun g313 Az w314 Hz m314 _ _ => ?_
  refine ⟨fun _ => (m314.to ⟨il, il, il, il, il, il, il, il, il, il, trivial⟩), ?_⟩
  refine se 5 ?_
  refine ecl Hz Tryz.func109 rfl (rDoAny _ x n (hM.2 _ (List.mem_of_getElem? hes)) hn items _ _ _ _ _ _ _ _ _ _ _ _ _ _ _ _ _ _ _ _ (by omega) (fun e he => itok (hii e he).1) (fun e he => (hii e he).2) (m314.into [(1, 25), (2, 26), (3, 27), (4, 22)] (by decide) rfl)) ?_
  rintro e w315 ⟨y, e9, rl, rf, rn, p1315, p2315, p3315, d1315, d2315, d3315, rfl, hyo, hyS, hm315⟩
  have mx315 := m314.back hm315 [(30, 1), (31, 2), (32, 3)] (by decide); clear hm315 m314
  have m315 := mx315.oz [30, 31, 32, 1, 2, 20, 21, 23, 24, 28, 29]
  refine ⟨_, rfl, ?_⟩; intro Az Hz
  refine goB hP276 [6, 7, 8] 3 1599 2047 Hz (.move rfl <| .extract rfl rfl <| .extract rfl rfl .nil) fun Az Hz => ?_
  refine se 11 ?_
  refine stw Hz m315 28 fct24 fun w320 m320 _ => ?_
  refine se 12 ?_
  refine stw Hz m320 29 fct28 fun w321 m321 _ => ?_
  refine wpAnyE_done (by kernel_rfl) ?_ _
  have m322 := m321.closeC 24 rfl
  show K25 _ _
  exact hC25 _ _ ⟨y, _, _, _, _, _, _, _, _, _, _, _, _, _, _, _, hyS, Hz.only [0, 4, 7, 8, 11, 12], m322.ren [(1, 1), (2, 2), (4, 20), (8, 24), (11, 28), (12, 29), (13, 30), (14, 31), (15, 32)] (by decide)⟩
 refine e_alloc Hz m276 28 fct29 rfl fun g323 Az w324 Hz m324 _ _ => ?_
 refine ⟨fun _ => (m324.to ⟨il, il, il, il, il, il, il, il, il, il, trivial⟩), ?_⟩
 refine dtw 5 9 ?_ ?_
 ·
  refine ecl Hz Tryz.func109 rfl (rDoAny _ x n (hM.2 _ (List.mem_of_getElem? hes)) hn items _ _ _ _ _ _ _ _ _ _ _ _ _ _ _ _ _ _ _ _ (by omega) (fun e he => itok (hii e he).1) (fun e he => (hii e he).2) (m324.into [(1, 25), (2, 26), (3, 27), (4, 22)] (by decide) rfl)) ?_
  rintro e w325 ⟨y, e9, rl, rf, rn, p1325, p2325, p3325, d1325, d2325, d3325, rfl, hyo, hyS, hm325⟩
  have mx325 := m324.back hm325 [(29, 1), (30, 2), (31, 3)] (by decide); clear hm325 m324
  have m325 := mx325.oz [29, 30, 31, 1, 2, 20, 21, 23, 24, 28]
  refine ⟨_, rfl, ?_⟩; intro Az Hz
  refine ⟨fun h => (Bool.false_ne_true (h.symm.trans (by rfl))).elim, ?_⟩
  refine goB hP276 [6, 7, 8] 3 1087 1535 Hz (.move rfl <| .extract rfl rfl <| .extract rfl rfl .nil) fun Az Hz => ?_
  refine se 9 ?_
  refine e_alloc Hz m325 32 fct26 rfl fun g330 Az w331 Hz m331 _ _ => ?_
  refine se 11 ?_
  refine stw Hz m331 32 fct24 fun w332 m332 _ => ?_
  refine se 12 ?_
  refine stw Hz m332 28 fct28 fun w333 m333 _ => ?_
  refine wpAnyE_done (by kernel_rfl) ?_ _
  have m334 := m333.closeC 24 rfl
  show K25 _ _
  exact hC25 _ _ ⟨y, _, _, _, _, _, _, _, _, _, _, _, _, _, _, _, hyS, Hz.only [0, 4, 7, 8, 11, 12], m334.ren [(1, 1), (2, 2), (4, 20), (8, 24), (11, 32), (12, 28), (13, 29), (14, 30), (15, 31)] (by decide)⟩
 refine e_alloc Hz m324 29 fct26 rfl fun g335 Az w336 Hz m336 _ _ => ?_
 refine ⟨fun _ => (m336.to ⟨il, il, il, il, il, il, il, il, il, il, trivial⟩), ?_⟩
 refine se 5 ?_
 refine ecl Hz Tryz.func109 rfl (rDoAny _ x n (hM.2 _ (List.mem_of_getElem? hes)) hn items _ _ _ _ _ _ _ _ _ _ _ _ _ _ _ _ _ _ _ _ (by omega) (fun e he => itok (hii e he).1) (fun e he => (hii e he).2) (m336.into [(1, 25), (2, 26), (3, 27), (4, 22)] (by decide) rfl)) ?_
 rintro e w337 ⟨y, e9, rl, rf, rn, p1337, p2337, p3337, d1337, d2337, d3337, rfl, hyo, hyS, hm337⟩
 have mx337 := m336.back hm337 [(30, 1), (31, 2), (32, 3)] (by decide); clear hm337 m336
 have m337 := mx337.oz [30, 31, 32, 1, 2, 20, 21, 23, 24, 28, 29]
 refine ⟨_, rfl, ?_⟩; intro Az Hz
 refine goB hP276 [6, 7, 8] 3 1599 2047 Hz (.move rfl <| .extract rfl rfl <| .extract rfl rfl .nil) fun Az Hz => ?_
 refine se 11 ?_
 refine stw Hz m337 29 fct24 fun w342 m342 _ => ?_
 refine se 12 ?_
 refine stw Hz m342 28 fct28 fun w343 m343 _ => ?_
 refine wpAnyE_done (by kernel_rfl) ?_ _
 have m344 := m343.closeC 24 rfl
 show K25 _ _
 exact hC25 _ _ ⟨y, _, _, _, _, _, _, _, _, _, _, _, _, _, _, _, hyS, Hz.only [0, 4, 7, 8, 11, 12], m344.ren [(1, 1), (2, 2), (4, 20), (8, 24), (11, 29), (12, 28), (13, 30), (14, 31), (15, 32)] (by decide)⟩
end Go.Proofs.YteglmahnkfgelaaGreat.K
end
section
namespace Go.Proofs.YteglmahnkfgelaaGreat.K
open Go.ChangeShapes Go.WideShapes Go.ChangeAt Go.RowKit
set_option linter.unusedVariables false
set_option linter.unusedSimpArgs false
theorem fl120sV : flatS Tryz.prog 120 [.slice none 0 0] = true := by kernel_rfl
set_option maxRecDepth 100000
set_option maxHeartbeats 4000000
theorem scmd_no (vo bl sz pe to ne fl : Int) (hi : Bool) (pp pn pw : Option Addr) (np cp nn9 cn9 nw cw : Nat) (wh xa xb xc : Int) (w0 : World) (hvo : 0 ≤ vo ∧ vo ≤ 255) (hw9 : 0 ≤ wh ∧ wh ≤ 255) (ha9 : 0 ≤ xa ∧ xa ≤ 255) (hb9 : 0 ≤ xb ∧ xb ≤ 255) (hc9 : 0 ≤ xc ∧ xc ≤ 255) :
   Calls Tryz.prog 74 #[.agg #[.int .i64 vo, .int .i64 bl, .int .i64 sz, .int .i64 pe, .slice pp np cp, .int .i64 to, .int .i64 ne, .bool hi, .int .i64 fl, .slice pn nn9 cn9, .slice pw nw cw], .bool false, .int .u8 wh, .int .u8 xa, .int .u8 xb, .int .u8 xc] w0 fun e w' => ∃ (vo2 bl2 sz2 pe2 to2 : Int) (place : List Int) (pp : Option Addr) (cp : Nat), e = .returned (.agg #[.int .i64 1, .int .i64 vo2, .int .i64 bl2, .int .i64 sz2, .int .i64 pe2, .slice pp place.length cp, .int .i64 to2, .int .i64 0, .int .i64 0, .slice none 0 0]) ∧ place.length ≤ 9 ∧ Rd (New w0) w' (.slice pp place.length cp) (.ns .i64 place) ∧ Below w0.heap.size w0 w' := by
 refine ent6 Tryz.func74 rfl Tryz.ntmps74 fun Az Hz => ?_
 have m0 := MemOk.start (fun _ => False) w0
 obtain ⟨tq, htq, htq0, htq3⟩ : ∃ x : Int, (xc / 4).tmod 3 = x ∧ 0 ≤ x ∧ x ≤ 2 := ⟨_, rfl, by rw [Int.tmod_eq_emod_of_nonneg (by omega)]; omega, by rw [Int.tmod_eq_emod_of_nonneg (by omega)]; omega⟩
 refine zsr fun K0 hK0 => ?_
 refine plz (e_box Hz m0 20 (cs := [_, _, _, _, _, _, _, _, _, _, _]) rfl rfl rfl fun g1 Az w2 Hz m2 _ _ => ?_)
 refine plz (e_alloc Hz m2 21 fct32 rfl fun g3 Az w4 Hz m4 _ _ => ?_)
 refine znl (hK0 _ _ ?_)
 refine wsk fun K1 hK1 => ?_
 refine regS Hz (.move rfl <| .not rfl .nil) fun Az Hz => ?_
 refine wct Hz ?_
 refine regS Hz (.assign rfl .nil) fun Az Hz => ?_
 refine wsk fun K2 hK2 => ?_
 refine regS Hz (.move rfl <| .rem rfl rfl (by decide) rfl <| .eql rfl rfl .nil) fun Az Hz => ?_
 refine bc Hz 19 ?_ ?_
 ·
  intro hb11 Hz; try simp only [QQ, Qax] at hb11
  refine wct Hz ?_
  replace Hz := Hz.oz [2, 3, 4, 5, 6, 12, 13]
  refine wp_region_lit ?_
  refine gz hK2 Hz (.move rfl <| .quo rfl rfl (by decide) (r := xc / 4) (by rw [Int.tdiv_eq_ediv_of_nonneg (by omega)]; exact IntWalk.u8_in _ (by omega)) <| .rem rfl rfl (by decide) (r := tq) htq <| .conv rfl U5 U3 (r := tq) (IntWalk.i64_in _ (by omega)) <| .add rfl rfl (IntWalk.i64_in _ (by omega)) <| .assign rfl <| .nil) fun Az Hz => ?_
  refine zsr fun K3 hK3 => ?_
  refine goCh Hz (.fa 0 rfl U34 <| .lb m4 20 U3 rfl rfl rfl <| .conv rfl U3 U5 (r := vo) (IntWalk.u8_in _ (by omega)) <| .move rfl <| .move rfl <| .move rfl <| .move rfl .nil) fun Az Hz => ?_
  refine plz (ecl Hz Tryz.func77 rfl (create_any vo xa xb xc _ _ hvo ha9 hb9 hc9) ?_)
  rintro e w33 ⟨bl2, sz2, pe2, place, p33, c33, rfl, -, -, -, -, -, -, -, hpl9, hd33, hb33⟩
  have m34 := m4.callF 22 rfl hb33 hd33
  refine ⟨_, rfl, ?_⟩; intro Az Hz
  refine plz (stw Hz m34 21 fct27 fun w36 m36 _ => ?_)
  refine znl (hK3 _ _ ?_)
  refine rtd (retC (fn := Tryz.f74) Hz m36 (i := 21) rfl rfl rfl U125 rfl fct27 ?_)
  exact ⟨_, _, _, _, _, place, _, _, rfl, hpl9, m36.outF (i := 22) rfl, m36.below⟩
 intro hb11 Hz; try simp only [QQ, Qax] at hb11
 refine wcf Hz ?_
 refine zss (hK2 _ _ ?_)
 replace Hz := Hz.oz [2, 3, 4, 5, 6, 12, 13]
 refine zsr fun K4 hK4 => ?_
 refine goCh Hz (.fa 0 rfl U34 <| .lb m4 20 U3 rfl rfl rfl <| .conv rfl U3 U5 (r := vo) (IntWalk.u8_in _ (by omega)) <| .move rfl <| .move rfl <| .move rfl <| .move rfl .nil) fun Az Hz => ?_
 refine plz (ecl Hz Tryz.func77 rfl (create_any vo xa xb xc _ _ hvo ha9 hb9 hc9) ?_)
 rintro e w52 ⟨bl2, sz2, pe2, place, p52, c52, rfl, -, -, -, -, -, -, -, hpl9, hd52, hb52⟩
 have m53 := m4.callF 22 rfl hb52 hd52
 refine ⟨_, rfl, ?_⟩; intro Az Hz
 refine plz (stw Hz m53 21 fct27 fun w55 m55 _ => ?_)
 refine znl (hK4 _ _ ?_)
 refine rtd (retC (fn := Tryz.f74) Hz m55 (i := 21) rfl rfl rfl U125 rfl fct27 ?_)
 exact ⟨_, _, _, _, _, place, _, _, rfl, hpl9, m55.outF (i := 22) rfl, m55.below⟩
theorem scmd_q (n : Nat) (x : VolV) (there : Bool) (p1 p2 p3 : Option Addr) (d1 d2 d3 : Nat) (wh xa xb xc : Int) (w0 : World) (hx : there = true → VolS n x) (hx0 : there = false → x = volZ) (hn : n ≤ 800000) (hw9 : 0 ≤ wh ∧ wh ≤ 255) (ha9 : 0 ≤ xa ∧ xa ≤ 255) (hb9 : 0 ≤ xb ∧ xb ≤ 255) (hc9 : 0 ≤ xc ∧ xc ≤ 255) :
   Calls Tryz.prog 74 #[.agg #[.int .i64 x.vo, .int .i64 x.bl, .int .i64 x.sz, .int .i64 x.pe, .slice p1 x.place.length d1, .int .i64 x.to, .int .i64 x.ne, .bool x.hi, .int .i64 x.fl, .slice p2 x.pins.length d2, .slice p3 (x.ws.map wrD).length d3], .bool there, .int .u8 wh, .int .u8 xa, .int .u8 xb, .int .u8 xc] w0 fun e w' => ∃ (kd vo2 bl2 sz2 pe2 to2 at0 ix : Int) (place : List Int) (it : List (Int × List Int)) (pp : Option Addr) (cp : Nat) (pi : Option Addr) (ci : Nat), e = .returned (.agg #[.int .i64 kd, .int .i64 vo2, .int .i64 bl2, .int .i64 sz2, .int .i64 pe2, .slice pp place.length cp, .int .i64 to2, .int .i64 at0, .int .i64 ix, .slice pi it.length ci]) ∧ place.length ≤ 9 ∧ it.length ≤ 8 ∧ ItsB it ∧ Rd (New w0) w' (.slice pp place.length cp) (.ns .i64 place) ∧ Rd (New w0) w' (.slice pi it.length ci) (.l 2 (it.map itD)) ∧ Below w0.heap.size w0 w' := by
 cases there
 · obtain rfl := hx0 rfl
   refine (scmd_no 0 0 0 0 0 0 0 false p1 p2 p3 0 d1 0 d2 0 d3 wh xa xb xc w0 (by omega) hw9 ha9 hb9 hc9).mono ?_
   rintro e w' ⟨vo2, bl2, sz2, pe2, to2, place, pp, cp, rfl, hp, hd, hb⟩
   exact ⟨1, vo2, bl2, sz2, pe2, to2, 0, 0, place, [], pp, cp, none, 0, rfl, hp, by simp, (fun e h => by cases h), hd, Rd.l0 none 0 2, hb⟩
 obtain ⟨h1, h2, h3, h4, -⟩ := hx rfl
 obtain ⟨vo, bl, sz, pe, place0, to, ne, hi, fl, pins, ws⟩ := x
 simp only at *
 obtain ⟨⟨a1, a2, a3, a4, a5, a6, a7, a8, a9, a10, a11⟩, b1, b2, b3⟩ := h1
 obtain ⟨z, rfl⟩ : ∃ z : Nat, sz = (z : Int) := ⟨sz.toNat, by omega⟩
 refine (scmd_any vo bl z pe to ne fl hi p1 p2 p3 place0.length d1 pins.length d2 (ws.map wrD).length d3 wh xa xb xc w0 (by omega) (by rw [List.length_map]; omega) (by omega) hw9 ha9 hb9 hc9).mono ?_
 rintro e w' ⟨kd, bl2, sz2, pe2, to2, at0, ix, vo2, it, pi, ci, dd, rfl, hkd, hit, hib, hd, hb⟩
 exact ⟨kd, vo2, bl2, sz2, pe2, to2, at0, ix, [], it, none, 0, pi, ci, rfl, by simp, hit, hib, Rd.nilN _ _ .i64 none, hd, hb⟩
theorem svol_any (l : List Int) (pl : Option Addr) (cl : Nat) (w0 : World) (h0 : Rd (fun _ => True) w0 (.slice pl l.length cl) (.ns .u8 l)) (hl : l.length ≤ 100000) (hlb : ∀ j, j < l.length → 0 ≤ l.getD j 0 ∧ l.getD j 0 ≤ 255) :
   Calls Tryz.prog 31 #[.slice pl l.length cl] w0 fun e w' => ∃ (x : VolV) (p1 p2 p3 : Option Addr) (d1 d2 d3 : Nat), e = .returned (.agg #[.int .i64 x.vo, .int .i64 x.bl, .int .i64 x.sz, .int .i64 x.pe, .slice p1 x.place.length d1, .int .i64 x.to, .int .i64 x.ne, .bool x.hi, .int .i64 x.fl, .slice p2 x.pins.length d2, .slice p3 (x.ws.map wrD).length d3]) ∧ VolS l.length x ∧ Rd (New w0) w' (.slice p1 x.place.length d1) (.ns .i64 x.place) ∧ Rd (New w0) w' (.slice p2 x.pins.length d2) (.ns .i64 x.pins) ∧ Rd (New w0) w' (.slice p3 (x.ws.map wrD).length d3) (.l 2 (x.ws.map wrD)) ∧ Below w0.heap.size w0 w' := by
 refine ent1 Tryz.func31 rfl Tryz.ntmps31 fun Az Hz => ?_
 have m0 := MemOk.start (fun _ => False) w0
 refine zsr fun K0 hK0 => ?_
 refine plz (e_alloc Hz m0 20 fct26 rfl fun g1 Az w2 Hz m2 _ _ => ?_)
 refine znl (hK0 _ _ ?_)
 refine zsr fun K1 hK1 => ?_
 refine goCh Hz (.build rfl fct45 fl120sV rfl (by dsimp only [setL, List.set] <;> rfl) .nil) fun Az Hz => ?_
 refine plz (e_box Hz m2 21 (cs := [_]) rfl rfl rfl fun g5 Az w6 Hz m6 _ _ => ?_)
 refine gz hK1 Hz (.assign rfl .nil) fun Az Hz => ?_
 refine wsk fun K2 hK2 => ?_
 refine regS Hz (.assign rfl .nil) fun Az Hz => ?_
 refine wp_block ?_
 refine wp_loop_ghost (fun g a w => ∃ (i k B2 B c : Nat) (L : List VolV) (p : Option Addr), i ≤ l.length ∧ k ≤ i ∧ g = l.length - i ∧ MacS k L ∧ Has 72 [(0, .slice pl l.length cl), (2, .pointer (some ⟨B2, 0, none⟩)), (3, .pointer (some ⟨B, 0, none⟩)), (4, .int .i64 i)] a ∧ MemOk (cn w0) w0 [(1, .box B 120 [.slice p (L.map volD).length c]), (2, .dat (.slice p (L.map volD).length c) (.l 11 (L.map volD))), (3, .box B2 34 [.int .i64 0, .int .i64 0, .int .i64 0, .int .i64 0, .slice none 0 0, .int .i64 0, .int .i64 0, .bool false, .int .i64 0, .slice none 0 0, .slice none 0 0])] w) (l.length) ?_ ?_
 · have mz := m6.dat 2 rfl (Rd.l0 none 0 11)
   exact ⟨0, 0, _, _, _, [], _, Nat.zero_le _, Nat.zero_le _, rfl, ⟨Nat.zero_le _, fun x h => by cases h⟩, Hz.only [0, 2, 3, 4], mz.ren [(1, 21), (2, 2), (3, 20)] (by decide)⟩
 clear Hz m6
 rintro g Az w9 ⟨i, k, B2, B, c, L, p, hil, hki, hg, hM, Hz, m9⟩
 refine wsk fun K3 hK3 => ?_
 refine regS Hz (.move rfl <| .inc (i + 3) <| .move rfl <| .len rfl U22 <| .lss rfl rfl .nil) fun Az Hz => ?_
 refine bc Hz 17 ?_ ?_
 ·
  intro hb15 Hz; try simp only [QQ, Qax] at hb15
  have hi9 : i + 3 < l.length := by omega
  refine wct Hz ?_
  refine zss (hK3 _ _ ?_)
  refine wsk fun K4 hK4 => ?_
  refine wp_block ?_
  refine zsr fun K5 hK5 => ?_
  refine goCh Hz (.move rfl .nil) fun Az Hz => ?_
  refine plz (ecl Hz Tryz.func72 rfl (rmVol _ _ L _ _ _ _ (by have := hM.1; omega) (m9.into [(1, 1), (2, 2)] (by decide) rfl)) ?_)
  rintro e w18 ⟨x, th, p118, p218, p318, d118, d218, d318, rfl, hx1, hx0, hm18⟩
  have mx18 := m9.back hm18 [(1, 1), (2, 2), (100, 3), (101, 4), (102, 5)] (by decide); clear hm18 m9
  have m18 := mx18.oz [1, 2, 100, 101, 102, 3]
  refine ⟨_, rfl, ?_⟩; intro Az Hz
  refine goCh Hz (.move rfl <| .extract rfl rfl <| .extract rfl rfl .nil) fun Az Hz => ?_
  refine plz (e_alloc Hz m18 103 fct26 rfl fun g23 Az w24 Hz m24 _ _ => ?_)
  refine plz (stw Hz m24 103 fct24 fun w25 m25 _ => ?_)
  refine gz hK5 Hz (.assign rfl .nil) fun Az Hz => ?_
  refine wsk fun K6 hK6 => ?_
  replace Hz := Hz.oz [0, 2, 3, 4, 5, 6]
  obtain ⟨gx29, ox29, hp29, hl29, hrg29⟩ := h0.extN (i) (by omega)
  revert Hz
  cases hp29
  intro Hz
  obtain ⟨gx31, ox31, hp31, hl31, hrg31⟩ := h0.extN (i + 1) (by omega)
  revert Hz
  cases hp31
  intro Hz
  obtain ⟨gx33, ox33, hp33, hl33, hrg33⟩ := h0.extN (i + 2) (by omega)
  revert Hz
  cases hp33
  intro Hz
  obtain ⟨gx35, ox35, hp35, hl35, hrg35⟩ := h0.extN (i + 3) (by omega)
  revert Hz
  cases hp35
  intro Hz
  have m36 := m25.oz [1, 2, 3, 100, 101, 102, 103]
  refine region_p 21 (B := [(1, _), (2, _), (3, _), (100, _), (101, _), (102, _), (103, _)]) (m36.to ⟨il, il, il, il, il, il, il, trivial⟩) m36 (by kernel_rfl) (fun w37 hP37 m37 => ?_); clear m36
  refine goR hP37 [0, 1, 2, 3, 4, 5, 6, 7, 8, 9, 10, 11, 12, 13, 14, 15, 16, 17, 18, 19, 20] [0, 5, 10, 15, 20] 21 0 2097151 Hz (m37.to ⟨il, il, il, il, il, il, il, trivial⟩) (.loadBR hh (i := 103) rfl rfl U34 rfl fct24 (by simp) (by dsimp only [List.drop, List.take] <;> rfl) <| .move rfl <| .move rfl <| .move rfl <| .p (fun _ _ h_ => y_idx h_ rfl rfl U22 fct20 (i) rfl (by omega)) <| .loadAt1 (fun _ h_ => (hrg29 h_ rfl)) (q := 0) rfl rfl rfl U5 rfl <| .move rfl <| .move rfl <| .add rfl rfl (r := ((i + 1 : Nat) : Int)) (by rw [IntWalk.i64_in _ (by omega)]; omega) <| .p (fun _ _ h_ => y_idx h_ rfl rfl U22 fct20 (i + 1) rfl (by omega)) <| .loadAt1 (fun _ h_ => (hrg31 h_ rfl)) (q := 0) rfl rfl rfl U5 rfl <| .move rfl <| .move rfl <| .add rfl rfl (r := ((i + 2 : Nat) : Int)) (by rw [IntWalk.i64_in _ (by omega)]; omega) <| .p (fun _ _ h_ => y_idx h_ rfl rfl U22 fct20 (i + 2) rfl (by omega)) <| .loadAt1 (fun _ h_ => (hrg33 h_ rfl)) (q := 0) rfl rfl rfl U5 rfl <| .move rfl <| .move rfl <| .add rfl rfl (r := ((i + 3 : Nat) : Int)) (by rw [IntWalk.i64_in _ (by omega)]; omega) <| .p (fun _ _ h_ => y_idx h_ rfl rfl U22 fct20 (i + 3) rfl (by omega)) <| .loadAt1 (fun _ h_ => (hrg35 h_ rfl)) (q := 0) rfl rfl rfl U5 rfl .nil) fun Az Hz => ?_
  refine se 21 ?_
  refine ecl Hz Tryz.func74 rfl (scmd_q k x th _ _ _ _ _ _ _ _ _ _ _ (fun h => hM.2 _ (hx1 h)) hx0 (by omega) (hlb _ (by omega)) (hlb _ (by omega)) (hlb _ (by omega)) (hlb _ (by omega))) ?_
  rintro e w59 ⟨kd, vo2, bl2, sz2, pe2, to2, at0, ix, place, it, pp59, cp59, pi59, ci59, rfl, hpl9, hit8, hitb, hd59, he59, hb59⟩
  have m60 := m37.callF2 104 105 rfl rfl hb59 hd59 he59
  refine ⟨_, rfl, ?_⟩; intro Az Hz
  refine se 22 ?_
  refine ecl Hz Tryz.func73 rfl (rputCmd _ _ _ _ _ _ _ _ place it _ _ _ _ _ _ ((m60.rd (i := 104) rfl).any) ((m60.rd (i := 105) rfl).any) (by omega) (by omega) (fun e he => (hitb e he).2)) ?_
  rintro e w62 ⟨bs, p62, c62, e9, rfl, hbs, hbb, hd62, hb62⟩
  have m63 := m60.callF 106 rfl hb62 hd62
  refine ⟨_, rfl, ?_⟩; intro Az Hz
  refine goB hP37 [23, 24, 25, 26, 27] 5 8388607 268435455 Hz (.move rfl <| .extract rfl rfl <| .extract rfl rfl <| .assign rfl <| .assign rfl .nil) fun Az Hz => ?_
  refine wpAnyE_done (by kernel_rfl) ?_ _
  refine hK6 _ _ ?_
  replace Hz := Hz.oz [0, 2, 3, 4, 34, 7]
  refine wp_region_lit ?_
  refine goCh Hz (.move rfl <| .move rfl .nil) fun Az Hz => ?_
  refine plz (ecl Hz Tryz.func75 rfl (rmApply _ _ k L _ _ bs _ _ _ hM (by omega) (by omega) hbb (m63.into [(1, 1), (2, 2), (3, 106)] (by decide) rfl)) ?_)
  rintro e w73 ⟨e1, rl1, rf1, rn1, L2, p73, c73, rfl, hM2, hm73⟩
  have mx73 := m63.back hm73 [(1, 1), (2, 2)] (by decide); clear hm73 m63
  have m73 := mx73.oz [1, 2, 3, 100, 101, 102, 103, 104, 105]
  refine ⟨_, rfl, ?_⟩; intro Az Hz
  refine znl (hK4 _ _ ?_)
  refine wp_region_lit ?_
  refine goCh Hz (.move rfl <| .inc (i + 4) <| .assign rfl .nil) fun Az Hz => ?_
  refine wpList_nil ?_
  show ∃ n', n' < _ ∧ _
  exact ⟨l.length - (i + 4), by omega, i + 4, k + 1, _, _, _, L2, _, by omega, by omega, rfl, hM2, Hz.only [0, 2, 3, 4], m73.ren [(1, 1), (2, 2), (3, 3)] (by decide)⟩
 intro hb15 Hz; try simp only [QQ, Qax] at hb15
 refine wcf Hz ?_
 refine wp_exit ?_
 refine hK2 _ _ ?_
 refine wsk fun K7 hK7 => ?_
 refine regS Hz (.move rfl <| .nilCheck rfl <| .fa 0 rfl U120 <| .lb m9 1 U118 rfl rfl rfl <| .len rfl U118 <| .eql rfl rfl .nil) fun Az Hz => ?_
 refine bc Hz 59 ?_ ?_
 ·
  intro hb84 Hz; try simp only [QQ, Qax] at hb84
  refine wct Hz ?_
  replace Hz := Hz.oz [0, 2, 3, 4]
  refine zsr fun K8 hK8 => ?_
  refine plz (ecl Hz Tryz.func77 rfl (create_any 0 3 1 1 0 _ (by omega) (by omega) (by omega) (by omega)) ?_)
  rintro e w86 ⟨bl2, sz2, pe2, place, p86, c86, rfl, hbl1, hbl9, hsz1, hsz3, hpe1, hpeb, hplc, hpl9, hd86, hb86⟩
  have m87 := m9.callF 100 rfl hb86 hd86
  refine ⟨_, rfl, ?_⟩; intro Az Hz
  have hN : NewOk (Int.tmod 0 3) bl2 sz2 pe2 0 place := ⟨by decide, by decide, by omega, by omega, by omega, by omega, by omega, by omega, hplc, by omega, by omega⟩
  refine plz (ecl Hz Tryz.func76 rfl (rnew_yes _ _ bl2 sz2 pe2 0 _ _ place _ _ _ _ _ _ ((m87.rd (i := 100) rfl).any) (by omega) hN) ?_)
  rintro e w89 ⟨p89, c89, rfl, hd89, hb89⟩
  have m90 := m87.callF 101 rfl hb89 hd89
  refine ⟨_, rfl, ?_⟩; intro Az Hz
  refine goCh Hz (.move rfl <| .extract rfl rfl <| .extract rfl rfl .nil) fun Az Hz => ?_
  refine plz (e_alloc Hz m90 102 fct26 rfl fun g95 Az w96 Hz m96 _ _ => ?_)
  refine plz (stw Hz m96 102 fct24 fun w97 m97 _ => ?_)
  refine gz hK8 Hz (.assign rfl .nil) fun Az Hz => ?_
  replace Hz := Hz.oz [0, 2, 3, 4, 9]
  refine zsr fun K9 hK9 => ?_
  refine goCh Hz (.loadBR m97 (i := 102) rfl rfl U34 rfl fct24 (by simp) (by dsimp only [List.drop, List.take] <;> rfl) .nil) fun Az Hz => ?_
  refine plz (stw Hz m97 3 fct24 fun w102 m102 _ => ?_)
  refine znl (hK9 _ _ ?_)
  refine rtd (retC (fn := Tryz.f31) Hz m102 (i := 3) rfl rfl rfl U34 rfl fct24 ?_)
  exact ⟨newV (Int.tmod 0 3) bl2 sz2 pe2 0 place, _, _, _, _, _, _, rfl, newV_s hN, m102.outF (i := 101) rfl, Rd.nilN _ _ .i64 none, Rd.l0 none 0 2, m102.below⟩
 intro hb84 Hz; try simp only [QQ, Qax] at hb84
 have hL0 : 0 < L.length := by simp at hb84; exact List.length_pos_iff.2 hb84
 obtain ⟨x, hes⟩ : ∃ x, L[0]? = some x := ⟨_, List.getElem?_eq_getElem hL0⟩
 refine wcf Hz ?_
 refine zss (hK7 _ _ ?_)
 replace Hz := Hz.oz [0, 2, 3, 4]
 refine zsr fun K10 hK10 => ?_
 refine goCh Hz (.move rfl <| .nilCheck rfl <| .fa 0 rfl U120 <| .lb m9 1 U118 rfl rfl rfl .nil) fun Az Hz => ?_
 obtain ⟨b113, o113, vs113, hp113, hR113, ho113, m113⟩ := m9.openR (i := 2) rfl (0) (r := [.v (.int .i64 x.vo), .v (.int .i64 x.bl), .v (.int .i64 x.sz), .v (.int .i64 x.pe), .ns .i64 x.place, .v (.int .i64 x.to), .v (.int .i64 x.ne), .v (.bool x.hi), .v (.int .i64 x.fl), .ns .i64 x.pins, .l 2 (x.ws.map wrD)]) (volD_get hes) 100 rfl
 revert Hz
 cases hp113; clear m9 ho113
 rcases hR113 with _ | ⟨hd113_0, _ | ⟨hd113_1, _ | ⟨hd113_2, _ | ⟨hd113_3, _ | ⟨hd113_4, _ | ⟨hd113_5, _ | ⟨hd113_6, _ | ⟨hd113_7, _ | ⟨hd113_8, _ | ⟨hd113_9, _ | ⟨hd113_10, _ | _⟩⟩⟩⟩⟩⟩⟩⟩⟩⟩⟩
 obtain rfl := hd113_0.v_out
 clear hd113_0
 obtain rfl := hd113_1.v_out
 clear hd113_1
 obtain rfl := hd113_2.v_out
 clear hd113_2
 obtain rfl := hd113_3.v_out
 clear hd113_3
 obtain ⟨p114, c114, hv114, hc114⟩ := hd113_4.ns_shape; subst hv114
 intro Hz
 have m114 := m113.dat 101 rfl (hd113_4.cast (fun _ h => (free_add rfl h))); clear m113 hd113_4
 revert Hz
 obtain rfl := hd113_5.v_out
 clear hd113_5
 obtain rfl := hd113_6.v_out
 clear hd113_6
 obtain rfl := hd113_7.v_out
 clear hd113_7
 obtain rfl := hd113_8.v_out
 clear hd113_8
 obtain ⟨p115, c115, hv115, hc115⟩ := hd113_9.ns_shape; subst hv115
 intro Hz
 have m115 := m114.dat 102 rfl (hd113_9.cast (fun _ h => (free_add rfl (free_add rfl h)))); clear m114 hd113_9
 revert Hz
 obtain ⟨p116, c116, hv116, hc116⟩ := hd113_10.l_shape; subst hv116
 intro Hz
 have m116 := m115.dat 103 rfl (hd113_10.cast (fun _ h => (free_add rfl (free_add rfl (free_add rfl h))))); clear m115 hd113_10
 refine goCh Hz (.c rfl (fun _ h_ => y_idx h_ rfl rfl U118 fct24 (0) rfl (by simpa using hL0)) <| .loadCR m116 (i := 100) rfl rfl U34 rfl fct24 .nil) fun Az Hz => ?_
 refine plz (stw Hz m116 3 fct24 fun w119 m119 _ => ?_)
 refine znl (hK10 _ _ ?_)
 refine rtd (retC (fn := Tryz.f31) Hz m119 (i := 3) rfl rfl rfl U34 rfl fct24 ?_)
 exact ⟨x, _, _, _, _, _, _, rfl, (hM.2 _ (List.mem_of_getElem? hes)).up (by omega), m119.outF (i := 101) rfl, m119.outF (i := 102) rfl, m119.outF (i := 103) rfl, m119.below⟩
end Go.Proofs.YteglmahnkfgelaaGreat.K
end
section
namespace Go.Proofs.YteglmahnkfgelaaGreat.K
open Go.ChangeShapes Go.WideShapes Go.ChangeAt Go.RowKit
set_option linter.unusedVariables false
set_option linter.unusedSimpArgs false
def WrsB (ws : List (Int × List (Int × List Int))) : Prop := ∀ e ∈ ws, e.2.length ≤ 8 ∧ ItsB e.2
theorem WrsB.ok {ws : List (Int × List (Int × List Int))} (h : WrsB ws) : WrsOk ws := fun e he => ⟨Nat.le_trans (h e he).1 (by decide), (h e he).2.ok⟩
set_option maxRecDepth 100000
set_option maxHeartbeats 4000000
end Go.Proofs.YteglmahnkfgelaaGreat.K
end
section
namespace Go.Proofs.YteglmahnkfgelaaGreat.K
open Go.ChangeShapes Go.WideShapes Go.ChangeAt Go.RowKit
set_option linter.unusedVariables false
set_option linter.unusedSimpArgs false
set_option maxRecDepth 100000
set_option maxHeartbeats 4000000
end Go.Proofs.YteglmahnkfgelaaGreat.K
end
section
namespace Go.Proofs.YteglmahnkfgelaaGreat.K
open Go.ChangeShapes Go.WideShapes Go.ChangeAt Go.RowKit
set_option linter.unusedVariables false
set_option linter.unusedSimpArgs false
def pinT (fl n : Int) (z : Int) : Int := fl + z % (n - fl + 1)
abbrev stZ (bl sz : Int) : List (List Int) := List.replicate bl.toNat (List.replicate sz.toNat 0)
abbrev stL (bl sz : Int) (ws : List PWr) (t : Nat) : List (List Int) := (ws.take t).foldl stW (stZ bl sz)
theorem stStep_len (L : List (List Int)) (x : PI) : (stStep L x).length = L.length := by unfold stStep; split <;> simp
theorem stSteps_len (l : List PI) : ∀ L : List (List Int), (l.foldl stStep L).length = L.length := by
 induction l with
 | nil => intro L; rfl
 | cons x l ih => intro L; rw [List.foldl_cons, ih, stStep_len]
theorem stW_len (L : List (List Int)) (x : PWr) : (stW L x).length = L.length := stSteps_len _ _
def wantF (i : Nat) (d : List Int) (x : PI) : List Int := if x.1 = (i : Int) then x.2 else d
set_option maxRecDepth 100000
set_option maxHeartbeats 4000000
end Go.Proofs.YteglmahnkfgelaaGreat.K
end
section
namespace Go.Proofs.YteglmahnkfgelaaGreat.K
open Go.ChangeShapes Go.WideShapes Go.ChangeAt Go.RowKit
set_option linter.unusedVariables false
set_option linter.unusedSimpArgs false
theorem fl25rpu : flatS Tryz.prog 25 [.int .i64 0, .int .i64 0, .int .i64 0, .int .i64 0, .int .i64 0, .int .i64 0, .int .i64 0, .slice none 0 0] = true := by kernel_rfl
theorem fl30rpu : flatS Tryz.prog 30 [.int .i64 0, .slice none 0 0] = true := by kernel_rfl
theorem fl78rpu : flatS Tryz.prog 78 [.int .i64 0, .slice none 0 0] = true := by kernel_rfl
set_option maxRecDepth 100000
set_option maxHeartbeats 4000000
theorem rlen_m (vo bl sz pe to ne fl : Int) (hi : Bool) (pp pn pw : Option Addr) (np cp nn9 cn9 : Nat) (ws : List PWr) (cw : Nat) (w0 : World) :
   Calls Tryz.prog 37 #[.agg #[.int .i64 vo, .int .i64 bl, .int .i64 sz, .int .i64 pe, .slice pp np cp, .int .i64 to, .int .i64 ne, .bool hi, .int .i64 fl, .slice pn nn9 cn9, .slice pw (ws.map wrD).length cw]] w0 fun e w' => e = .returned (.int .i64 (ws.length : Int)) ∧ Below w0.heap.size w0 w' := by
 have h := rlen_any vo bl sz pe to ne fl hi pp pn pw np cp nn9 cn9 (ws.map wrD).length cw w0
 rw [List.length_map] at h
 rw [List.length_map]
 exact h
theorem rcount_yes (vo bl sz pe to ne fl : Int) (hi : Bool) (pp pn pw : Option Addr) (cp : Nat) (place : List Int) (nn9 cn9 nw cw : Nat) (ch fi cnt : Int) (w0 : World) (hch : 0 ≤ ch ∧ ch < place.length) (hpe : 1 ≤ pe) (hfi : ch * pe = fi) (hfb : 0 ≤ fi ∧ fi ≤ 1000000) (hblb : 0 ≤ bl ∧ bl ≤ 1000000) (hcnt : min pe (bl - fi) = cnt) :
   Calls Tryz.prog 85 #[.agg #[.int .i64 vo, .int .i64 bl, .int .i64 sz, .int .i64 pe, .slice pp place.length cp, .int .i64 to, .int .i64 ne, .bool hi, .int .i64 fl, .slice pn nn9 cn9, .slice pw nw cw], .int .i64 ch] w0 fun e w' => e = .returned (.int .i64 cnt) ∧ Below w0.heap.size w0 w' := by
 refine ent2 Tryz.func85 rfl Tryz.ntmps85 fun Az Hz => ?_
 have m0 := MemOk.start (fun _ => False) w0
 refine zsr fun K0 hK0 => ?_
 refine plz (e_box Hz m0 20 (cs := [_, _, _, _, _, _, _, _, _, _, _]) rfl rfl rfl fun g1 Az w2 Hz m2 _ _ => ?_)
 refine gz hK0 Hz (.assign rfl .nil) fun Az Hz => ?_
 refine wsk fun K1 hK1 => ?_
 refine zsr fun K2 hK2 => ?_
 refine goCh Hz (.move rfl <| .lss rfl rfl <| .move rfl .nil) fun Az Hz => ?_
 refine bc Hz 7 ?_ ?_
 · intro hb _; exact absurd hb (by simp; omega)
 clear Hz; intro _ Hz
 refine goCh Hz (.moveZ rfl <| .faZ 4 rfl U34 <| .loadB1Z m2 (i := 20) rfl rfl rfl U31 rfl <| .lenZ rfl U31 <| .geqZ rfl rfl <| .pickF rfl rfl <| .move rfl .nil) fun Az Hz => ?_
 refine bc Hz 14 ?_ ?_
 · intro hb _; exact absurd hb (by simp; omega)
 clear Hz; intro _ Hz
 refine gz hK2 Hz (.faZ 3 rfl U34 <| .loadB1Z m2 (i := 20) rfl rfl rfl U3 rfl <| .lssZ rfl rfl <| .pickF rfl rfl <| .nil) fun Az Hz => ?_
 refine bc Hz 18 ?_ ?_
 · intro hb _; exact absurd hb (by simp; omega)
 clear Hz; intro _ Hz
 refine wcf Hz ?_
 refine zss (hK1 _ _ ?_)
 replace Hz := Hz.oz [1, 2, 4]
 refine regS Hz (.fa 3 rfl U34 <| .lb m2 20 U3 rfl rfl rfl <| .fa 1 rfl U34 <| .lb m2 20 U3 rfl rfl rfl <| .move rfl <| .fa 3 rfl U34 <| .lb m2 20 U3 rfl rfl rfl <| .mul rfl rfl (r := fi) (by rw [hfi]; exact IntWalk.i64_in _ (by omega)) <| .sub rfl rfl (r := bl - fi) (IntWalk.i64_in _ (by omega)) <| .c rfl (fun _ h_ => y_min h_ rfl rfl (r := cnt) hcnt) <| .assign rfl .nil) fun Az Hz => ?_
 refine rt1 Hz ?_
 exact ⟨rfl, m2.below⟩
theorem rpush_any (X : Cx) (vo bl sz pe to ne fl : Int) (hi : Bool) (pp pn pw : Option Addr) (cp nn9 cn9 cw : Nat) (place : List Int) (ws : List PWr) (ch fi cnt : Int) (mk tq : Nat) (w0 : World) (hch : 0 ≤ ch ∧ ch < place.length) (hpe : 1 ≤ pe) (hfi : ch * pe = fi) (hfb : 0 ≤ fi ∧ fi ≤ 1000000) (hblb : 0 ≤ bl ∧ bl ≤ 1000000) (hcnt : min pe (bl - fi) = cnt) (hc1 : 1 ≤ cnt) (hl : ws.length ≤ 1000000) (hok : WrsOk ws) (hib : ∀ e ∈ ws, ∀ x ∈ e.2, 0 ≤ x.1 ∧ x.1 < bl) (hmk : mk ≤ ws.length) (htq : min ((mk : Int) + 4) ws.length = tq) (m0 : MemOk X w0 [(3, .dat (.slice pw (ws.map wrD).length cw) (.l 2 (ws.map wrD)))] w0) :
   Calls Tryz.prog 36 #[.agg #[.int .i64 vo, .int .i64 bl, .int .i64 sz, .int .i64 pe, .slice pp place.length cp, .int .i64 to, .int .i64 ne, .bool hi, .int .i64 fl, .slice pn nn9 cn9, .slice pw (ws.map wrD).length cw], .int .i64 ch, .int .i64 (mk : Int)] w0 fun e w' => ∃ p c, e = .returned (.tuple #[.agg #[.int .i64 vo, .int .i64 ch, .int .i64 cnt, .int .i64 sz, .int .i64 (mk : Int), .int .i64 (tq : Int), .int .i64 (min fl tq), .slice p ((pushL fi cnt ((ws.take tq).drop mk)).map wrD).length c], .bool true]) ∧ MemOk X w0 [(3, .dat (.slice pw (ws.map wrD).length cw) (.l 2 (ws.map wrD))), (9, .dat (.slice p ((pushL fi cnt ((ws.take tq).drop mk)).map wrD).length c) (.l 2 ((pushL fi cnt ((ws.take tq).drop mk)).map wrD)))] w' := by
 refine ent3 Tryz.func36 rfl Tryz.ntmps36 fun Az Hz => ?_
 obtain ⟨W2, hW2⟩ : ∃ x, (ws.take tq).drop mk = x := ⟨_, rfl⟩
 have hW2l : W2.length = tq - mk := by rw [← hW2, List.length_drop, List.length_take]; omega
 refine zsr fun K0 hK0 => ?_
 refine plz (e_box Hz m0 70 (cs := [_, _, _, _, _, _, _, _, _, _, _]) rfl rfl rfl fun g1 Az w2 Hz m2 _ _ => ?_)
 refine plz (e_alloc Hz m2 71 fct16 rfl fun g3 Az w4 Hz m4 _ _ => ?_)
 refine gz hK0 Hz (.assign rfl .nil) fun Az Hz => ?_
 refine zsr fun K1 hK1 => ?_
 refine goCh Hz (.loadBR m4 (i := 70) rfl rfl U34 rfl fct24 (by simp) (by dsimp only [List.drop, List.take] <;> rfl) <| .move rfl .nil) fun Az Hz => ?_
 refine plz (ecb Hz Tryz.func85 rfl m4 (rcount_yes _ _ _ _ _ _ _ _ _ _ _ _ place _ _ _ _ _ fi cnt _ hch hpe hfi hfb hblb hcnt) fun Az w10 Hz m11 => ?_)
 refine gz hK1 Hz (.assign rfl .nil) fun Az Hz => ?_
 refine wsk fun K2 hK2 => ?_
 refine zsr fun K3 hK3 => ?_
 refine goCh Hz (.move rfl <| .lss rfl rfl <| .move rfl .nil) fun Az Hz => ?_
 refine bc Hz 20 ?_ ?_
 · intro hb _; exact absurd hb (by first | (simp; done) | (simp; omega))
 clear Hz; intro _ Hz
 refine goCh Hz (.moveZ rfl <| .lssZ rfl rfl <| .pickF rfl rfl <| .move rfl .nil) fun Az Hz => ?_
 refine bc Hz 24 ?_ ?_
 · intro hb _; exact absurd hb (by first | (simp; done) | (simp; omega))
 clear Hz; intro _ Hz
 refine goCh Hz (.moveZ rfl <| .loadBRZ m11 (i := 70) rfl rfl U34 rfl fct24 (by simp) (by dsimp only [List.drop, List.take] <;> rfl) .nil) fun Az Hz => ?_
 refine stz Hz (ecb Hz Tryz.func37 rfl m11 (rlen_m _ _ _ _ _ _ _ _ _ _ _ _ _ _ _ _ _ _) fun Az w28 Hz m29 => ?_)
 refine gz hK3 Hz (.gtrZ rfl rfl <| .pickF rfl rfl <| .nil) fun Az Hz => ?_
 refine bc Hz 29 ?_ ?_
 · intro hb _; exact absurd hb (by first | (simp; done) | (simp; omega))
 clear Hz; intro _ Hz
 refine wcf Hz ?_
 refine zss (hK2 _ _ ?_)
 refine wsk fun K4 hK4 => ?_
 replace Hz := Hz.oz [1, 2, 3, 6, 7, 8, 25]
 have m35 := m29.oz [3, 70, 71]
 refine region_p 15 (B := [(70, _)]) (m35.to ⟨il, trivial⟩) m35 (by kernel_rfl) (fun w36 hP36 m36 => ?_); clear m35
 refine goR hP36 [0, 1, 2, 3, 4, 5, 6, 7, 8, 9] [1, 5, 9] 10 0 1023 Hz (m36.to ⟨il, trivial⟩) (.fa 0 rfl U34 <| .lb hh 70 U3 rfl rfl rfl <| .move rfl <| .move rfl <| .fa 2 rfl U34 <| .lb hh 70 U3 rfl rfl rfl <| .move rfl <| .move rfl <| .add rfl rfl (r := (mk : Int) + 4) (IntWalk.i64_in _ (by omega)) <| .loadBR hh (i := 70) rfl rfl U34 rfl fct24 (by simp) (by dsimp only [List.drop, List.take] <;> rfl) .nil) fun Az Hz => ?_
 refine dtw 10 13 ?_ ?_
 ·
  refine ecb Hz Tryz.func37 rfl m36 (rlen_m _ _ _ _ _ _ _ _ _ _ _ _ _ _ _ _ _ _) fun Az w47 Hz m48 => ?_
  refine ⟨fun _ => (m48.to ⟨il, trivial⟩), ?_⟩
  refine goA hP36 [11, 12] 2 2047 8191 Hz (m48.to ⟨il, trivial⟩) (.p (fun _ _ h_ => y_min h_ rfl rfl (r := (tq : Int)) htq) <| .build rfl fct16 fl25rpu rfl (by dsimp only [setL, List.set] <;> rfl) .nil) fun Az Hz => ?_
  refine so 13 ?_
  refine e_alloc Hz m48 72 fct16 rfl fun g52 Az w53 Hz m53 _ _ => ?_
  refine ⟨m53.to ⟨il, trivial⟩, ?_⟩
  refine so 14 ?_
  refine stw Hz m53 72 fct7 fun w54 m54 _ => ?_
  refine ⟨m54.to ⟨il, trivial⟩, ?_⟩
  refine wpAnyE_done (by kernel_rfl) ?_ _
  refine hK4 _ _ ?_
  replace Hz := Hz.oz [1, 3, 6, 7, 8, 25, 9]
  refine zsr fun K5 hK5 => ?_
  refine goCh Hz (.fa 8 rfl U34 <| .lb m54 70 U2 rfl rfl rfl <| .fa 5 rfl U25 <| .lb m54 72 U2 rfl rfl rfl <| .c rfl (fun _ h_ => y_min h_ rfl rfl rfl) <| .fa 6 rfl U25 .nil) fun Az Hz => ?_
  refine plz (st1 Hz m54 72 fct22 fun w68 m68 _ => ?_)
  refine znl (hK5 _ _ ?_)
  refine wsk fun K6 hK6 => ?_
  replace Hz := Hz.oz [1, 3, 6, 7, 8, 25, 9]
  refine regS Hz (.fa 4 rfl U25 <| .lb m68 72 U2 rfl rfl rfl <| .assign rfl .nil) fun Az Hz => ?_
  refine wp_block ?_
  refine wp_loop_ghost (fun g a w => ∃ (k B3 B6 B9 : Nat) (p : Option Addr) (c : Nat), mk + k ≤ tq ∧ g = tq - mk - k ∧ Has 112 [(1, .int .i64 ch), (3, .pointer (some ⟨B3, 0, none⟩)), (6, .pointer (some ⟨B6, 0, none⟩)), (8, .int .i64 cnt), (9, .pointer (some ⟨B9, 0, none⟩)), (10, .int .i64 ((mk + k : Nat) : Int))] a ∧ MemOk X w0 [(1, .box B3 34 [.int .i64 vo, .int .i64 bl, .int .i64 sz, .int .i64 pe, .slice pp place.length cp, .int .i64 to, .int .i64 ne, .bool hi, .int .i64 fl, .slice pn nn9 cn9, .slice pw (ws.map wrD).length cw]), (6, .box B6 25 [.int .i64 0, .int .i64 0, .int .i64 0, .int .i64 0, .int .i64 0, .int .i64 0, .int .i64 0, .slice none 0 0]), (9, .box B9 25 [.int .i64 vo, .int .i64 ch, .int .i64 cnt, .int .i64 sz, .int .i64 mk, .int .i64 tq, .int .i64 (min fl tq), .slice p ((pushL fi cnt (W2.take k)).map wrD).length c]), (10, .row (.slice p ((pushL fi cnt (W2.take k)).map wrD).length c) 30 2 ((pushL fi cnt (W2.take k)).map wrD)), (3, .dat (.slice pw (ws.map wrD).length cw) (.l 2 (ws.map wrD)))] w) (tq - mk) ?_ ?_
  · have mz := m68.nilR 10 30 2
    exact ⟨0, _, _, _, _, _, by omega, rfl, Hz.only [1, 3, 6, 8, 9, 10], mz.ren [(1, 70), (6, 71), (9, 72), (10, 10), (3, 3)] (by decide)⟩
  clear Hz m68
  rintro g Az w73 ⟨k, B3, B6, B9, p, c, hkl, hg, Hz, m73⟩
  refine wsk fun K7 hK7 => ?_
  refine regS Hz (.move rfl <| .fa 5 rfl U25 <| .lb m73 9 U2 rfl rfl rfl <| .lss rfl rfl .nil) fun Az Hz => ?_
  refine bc Hz 55 ?_ ?_
  ·
   intro hb78 Hz; try simp only [QQ, Qax] at hb78
   have hk : k < W2.length := by omega
   obtain ⟨⟨xs, xl⟩, hes2⟩ : ∃ e, W2[k]? = some e := ⟨_, List.getElem?_eq_getElem hk⟩
   have hes : ws[mk + k]? = some (xs, xl) := by rw [← hW2, List.getElem?_drop, List.getElem?_take] at hes2; split at hes2; (exact hes2); (cases hes2)
   have hok2 := hok _ (List.mem_of_getElem? hes)
   dsimp only at hok2
   have hib2 := hib _ (List.mem_of_getElem? hes)
   dsimp only at hib2
   refine wct Hz ?_
   refine zss (hK7 _ _ ?_)
   refine wsk fun K8 hK8 => ?_
   refine wp_block ?_
   refine regS Hz (.assign rfl .nil) fun Az Hz => ?_
   refine zsr fun K9 hK9 => ?_
   refine goCh Hz (.fa 10 rfl U34 <| .lb m73 1 U23 rfl rfl rfl <| .move rfl .nil) fun Az Hz => ?_
   obtain ⟨b87, o87, vs87, hp87, hR87, ho87, m87⟩ := m73.openR (i := 3) rfl ((mk + k)) (r := [.v (.int .i64 xs), .l 2 (xl.map itD)]) (wrD_get hes) 100 rfl
   revert Hz
   cases hp87; clear m73 ho87
   rcases hR87 with _ | ⟨hd87_0, _ | ⟨hd87_1, _ | _⟩⟩
   obtain rfl := hd87_0.v_out
   clear hd87_0
   obtain ⟨p88, c88, hv88, hc88⟩ := hd87_1.l_shape; subst hv88
   intro Hz
   have m88 := m87.dat 101 rfl (hd87_1.cast (fun _ h => (free_add rfl h))); clear m87 hd87_1
   refine goCh Hz (.c rfl (fun _ h_ => y_idx h_ rfl rfl U23 fct8 ((mk + k)) rfl (by rw [List.length_map]; omega)) <| .loadCR m88 (i := 100) rfl rfl U30 rfl fct8 .nil) fun Az Hz => ?_
   refine plz (e_alloc Hz m88 102 fct9 rfl fun g91 Az w92 Hz m92 _ _ => ?_)
   refine plz (stw Hz m92 102 fct8 fun w93 m93 _ => ?_)
   refine znl (hK9 _ _ ?_)
   refine wsk fun K10 hK10 => ?_
   replace Hz := Hz.oz [1, 3, 6, 8, 9, 10, 11, 12]
   refine regS Hz (.assign rfl .nil) fun Az Hz => ?_
   refine wp_block ?_
   refine wp_loop_ghost (fun g a w => ∃ (j B3 B6 B9 B12 : Nat) (p p2 px : Option Addr) (c c2 cx9 : Nat), j ≤ xl.length ∧ g = xl.length - j ∧ Has 112 [(1, .int .i64 ch), (3, .pointer (some ⟨B3, 0, none⟩)), (6, .pointer (some ⟨B6, 0, none⟩)), (8, .int .i64 cnt), (9, .pointer (some ⟨B9, 0, none⟩)), (10, .int .i64 ((mk + k : Nat) : Int)), (11, .slice p2 ((itemsL fi cnt (xl.take j)).map itD).length c2), (12, .pointer (some ⟨B12, 0, none⟩)), (13, .int .i64 j)] a ∧ MemOk X w0 [(1, .box B3 34 [.int .i64 vo, .int .i64 bl, .int .i64 sz, .int .i64 pe, .slice pp place.length cp, .int .i64 to, .int .i64 ne, .bool hi, .int .i64 fl, .slice pn nn9 cn9, .slice (some ⟨b87, o87, none⟩) (ws.map wrD).length cw]), (6, .box B6 25 [.int .i64 0, .int .i64 0, .int .i64 0, .int .i64 0, .int .i64 0, .int .i64 0, .int .i64 0, .slice none 0 0]), (9, .box B9 25 [.int .i64 vo, .int .i64 ch, .int .i64 cnt, .int .i64 sz, .int .i64 mk, .int .i64 tq, .int .i64 (min fl tq), .slice p ((pushL fi cnt (W2.take k)).map wrD).length c]), (10, .row (.slice p ((pushL fi cnt (W2.take k)).map wrD).length c) 30 2 ((pushL fi cnt (W2.take k)).map wrD)), (3, .dat (.slice (some ⟨b87, o87, none⟩) (ws.map wrD).length cw) (.l 2 (ws.map wrD))), (12, .box B12 30 [.int .i64 xs, .slice px (xl.map itD).length cx9]), (13, .dat (.slice px (xl.map itD).length cx9) (.l 2 (xl.map itD))), (14, .row (.slice p2 ((itemsL fi cnt (xl.take j)).map itD).length c2) 78 2 ((itemsL fi cnt (xl.take j)).map itD))] w) (xl.length) ?_ ?_
   · have mz := m93.nilR 14 78 2
     exact ⟨0, _, _, _, _, _, _, _, _, _, _, Nat.zero_le _, rfl, Hz.only [1, 3, 6, 8, 9, 10, 11, 12, 13], mz.ren [(1, 1), (6, 6), (9, 9), (10, 10), (3, 3), (12, 102), (13, 101), (14, 14)] (by decide)⟩
   clear Hz m93
   rintro g Az w96 ⟨j, B3, B6, B9, B12, p, p2, px, c, c2, cx9, hjl, hg2, Hz, m96⟩
   refine wsk fun K11 hK11 => ?_
   refine regS Hz (.move rfl <| .fa 1 rfl U30 <| .lb m96 12 U28 rfl rfl rfl <| .len rfl U28 <| .lss rfl rfl .nil) fun Az Hz => ?_
   refine bc Hz 67 ?_ ?_
   ·
    intro hb102 Hz; try simp only [QQ, Qax] at hb102
    rw [List.length_map] at hb102
    have hj : j < xl.length := by omega
    obtain ⟨⟨xb, xd⟩, hxs⟩ : ∃ e, xl[j]? = some e := ⟨_, List.getElem?_eq_getElem hj⟩
    have hxb := hib2 _ (List.mem_of_getElem? hxs)
    dsimp only at hxb
    have hed := hok2.2 _ (List.mem_of_getElem? hxs)
    dsimp only at hed
    refine wct Hz ?_
    refine zss (hK11 _ _ ?_)
    refine wsk fun K12 hK12 => ?_
    refine wp_block ?_
    refine wsk fun K13 hK13 => ?_
    obtain ⟨b103, o103, vs103, hp103, hR103, ho103, m103⟩ := m96.openR (i := 13) rfl (j) (r := [.v (.int .i64 xb), .ns .u8 xd]) (itD_get hxs) 200 rfl
    revert Hz
    cases hp103; clear m96 ho103
    rcases hR103 with _ | ⟨hd103_0, _ | ⟨hd103_1, _ | _⟩⟩
    obtain rfl := hd103_0.v_out
    clear hd103_0
    obtain ⟨p104, c104, hv104, hc104⟩ := hd103_1.ns_shape; subst hv104
    intro Hz
    have m104 := m103.dat 201 rfl (hd103_1.cast (fun _ h => (free_add rfl h))); clear m103 hd103_1
    have m105 := m104.oz [1, 3, 6, 9, 10, 12, 13, 14, 200, 201]
    refine region_p 12 (B := [(1, _), (3, _), (6, _), (9, _), (10, _), (12, _), (13, _), (14, _), (200, _), (201, _)]) (m105.to ⟨il, il, il, il, il, il, il, il, il, il, trivial⟩) m105 (by kernel_rfl) (fun w106 hP106 m106 => ?_); clear m105
    refine goR hP106 [0, 1, 2, 3, 4, 5, 6, 7, 8, 9, 10, 11] [1, 5, 8] 12 0 4095 Hz (m106.to ⟨il, il, il, il, il, il, il, il, il, il, trivial⟩) (.fa 1 rfl U30 <| .lb hh 12 U28 rfl rfl rfl <| .move rfl <| .p (fun _ _ h_ => y_idx h_ rfl rfl U28 fct25 (j) rfl (by simpa using hj)) <| .fieldAddrQ 0 rfl U78 rfl (s := 0) (by kernel_rfl) rfl <| .loadC0 hh (i := 200) rfl rfl U3 rfl <| .move rfl <| .fa 3 rfl U34 <| .lb hh 1 U3 rfl rfl rfl <| .mul rfl rfl (r := fi) (by rw [hfi]; exact IntWalk.i64_in _ (by omega)) <| .sub rfl rfl (r := xb - fi) (IntWalk.i64_in _ (by omega)) <| .assign rfl .nil) fun Az Hz => ?_
    refine wpAnyE_done (by kernel_rfl) ?_ _
    refine hK13 _ _ ?_
    replace Hz := Hz.oz [1, 3, 6, 8, 9, 10, 11, 12, 13, 14]
    refine zsr fun K14 hK14 => ?_
    refine goCh Hz (.move rfl <| .geq rfl rfl <| .move rfl .nil) fun Az Hz => ?_
    refine bc Hz 83 ?_ ?_
    ·
     intro hb126 Hz; try simp only [QQ, Qax] at hb126
     refine gz hK14 Hz (.moveZ rfl <| .moveZ rfl <| .lssZ rfl rfl <| .pickT rfl rfl <| .nil) fun Az Hz => ?_
     refine bc Hz 87 ?_ ?_
     ·
      intro hb131 Hz; try simp only [QQ, Qax] at hb131
      refine wct Hz ?_
      refine wp_region_lit ?_
      refine goCh Hz (.move rfl <| .move rfl <| .fa 1 rfl U30 <| .lb m106 12 U28 rfl rfl rfl <| .move rfl .nil) fun Az Hz => ?_
      obtain ⟨b137, o137, vs137, hp137, hR137, ho137, m137⟩ := m106.openR (i := 13) rfl (j) (r := [.v (.int .i64 xb), .ns .u8 xd]) (itD_get hxs) 202 rfl
      revert Hz
      cases hp137; clear m106 ho137
      rcases hR137 with _ | ⟨hd137_0, _ | ⟨hd137_1, _ | _⟩⟩
      obtain rfl := hd137_0.v_out
      clear hd137_0
      obtain ⟨p138, c138, hv138, hc138⟩ := hd137_1.ns_shape; subst hv138
      intro Hz
      have m138 := m137.dat 203 rfl (hd137_1.cast (fun _ h => (free_add rfl h))); clear m137 hd137_1
      refine goCh Hz (.c rfl (fun _ h_ => y_idx h_ rfl rfl U28 fct25 (j) rfl (by simpa using hj)) <| .fieldAddrQ 1 rfl U78 rfl (s := 0) (by kernel_rfl) rfl <| .loadC1 m138 (i := 202) (q := 1) rfl rfl rfl U22 rfl <| .build rfl fct17 fl78rpu rfl (by dsimp only [setL, List.set] <;> rfl) .nil) fun Az Hz => ?_
      refine plz (e_litR Hz m138 204 (mm := 2) rfl (.cons rfl rfl (.cons (.v _) (.cons (m138.rd (i := 203) rfl) .nil)) .nil) U28 fct15 rfl rfl rfl rfl rfl fun g143 Az w144 Hz m144 => ?_)
      have m146 := m144.freezeR 204 rfl
      refine plz (e_appR Hz m146 14 rfl rfl rfl (m146.rd (i := 204) rfl) U28 fct15 rfl rfl (by decide) (by have := itemsL_len fi cnt (xl.take j); rw [List.length_take] at this; simp; omega) rfl fun p145 c145 Az w147 Hz m147 => ?_)
      refine gz hK12 Hz (.assign rfl .nil) fun Az Hz => ?_
      replace Hz := Hz.oz [1, 3, 6, 8, 9, 10, 11, 12, 13, 83, 87]
      refine wp_region_lit ?_
      refine goCh Hz (.move rfl <| .inc (j + 1) <| .assign rfl .nil) fun Az Hz => ?_
      refine wpList_nil ?_
      show ∃ n', n' < _ ∧ _
      have hE : (itemsL fi cnt (xl.take j)).map itD ++ [[D.v (.int .i64 (xb - fi)), .ns .u8 xd]] = (itemsL fi cnt (xl.take (j + 1))).map itD := by rw [itemsL_yes hxs (by omega), List.map_append]; rfl
      rw [hE] at m147 Hz
      exact ⟨xl.length - (j + 1), by omega, j + 1, _, _, _, _, _, _, _, _, _, _, by omega, rfl, Hz.only [1, 3, 6, 8, 9, 10, 11, 12, 13], m147.ren [(1, 1), (6, 6), (9, 9), (10, 10), (3, 3), (12, 12), (13, 13), (14, 14)] (by decide)⟩
     intro hb131 Hz; try simp only [QQ, Qax] at hb131
     refine wcf Hz ?_
     refine zss (hK12 _ _ ?_)
     replace Hz := Hz.oz [1, 3, 6, 8, 9, 10, 11, 12, 13, 83, 87]
     refine wp_region_lit ?_
     refine goCh Hz (.move rfl <| .inc (j + 1) <| .assign rfl .nil) fun Az Hz => ?_
     refine wpList_nil ?_
     show ∃ n', n' < _ ∧ _
     have hE : (itemsL fi cnt (xl.take j)) = itemsL fi cnt (xl.take (j + 1)) := (itemsL_no hxs (by omega)).symm
     rw [hE] at m106 Hz
     exact ⟨xl.length - (j + 1), by omega, j + 1, _, _, _, _, _, _, _, _, _, _, by omega, rfl, Hz.only [1, 3, 6, 8, 9, 10, 11, 12, 13], m106.ren [(1, 1), (6, 6), (9, 9), (10, 10), (3, 3), (12, 12), (13, 13), (14, 14)] (by decide)⟩
    intro hb126 Hz; try simp only [QQ, Qax] at hb126
    refine gz hK14 Hz (.sk <| .sk <| .sk <| .pickF rfl rfl <| .nil) fun Az Hz => ?_
    refine wcf Hz ?_
    refine zss (hK12 _ _ ?_)
    replace Hz := Hz.oz [1, 3, 6, 8, 9, 10, 11, 12, 13, 83, 87]
    refine wp_region_lit ?_
    refine goCh Hz (.move rfl <| .inc (j + 1) <| .assign rfl .nil) fun Az Hz => ?_
    refine wpList_nil ?_
    show ∃ n', n' < _ ∧ _
    have hE : (itemsL fi cnt (xl.take j)) = itemsL fi cnt (xl.take (j + 1)) := (itemsL_no hxs (by omega)).symm
    rw [hE] at m106 Hz
    exact ⟨xl.length - (j + 1), by omega, j + 1, _, _, _, _, _, _, _, _, _, _, by omega, rfl, Hz.only [1, 3, 6, 8, 9, 10, 11, 12, 13], m106.ren [(1, 1), (6, 6), (9, 9), (10, 10), (3, 3), (12, 12), (13, 13), (14, 14)] (by decide)⟩
   intro hb102 Hz; try simp only [QQ, Qax] at hb102
   rw [List.length_map] at hb102
   revert Hz
   obtain rfl : j = xl.length := by omega
   intro Hz
   rw [List.take_length] at m96 Hz
   refine wcf Hz ?_
   refine wp_exit ?_
   refine hK10 _ _ ?_
   refine regS Hz (.move rfl <| .len rfl U28 <| .gtr rfl rfl .nil) fun Az Hz => ?_
   refine bc Hz 101 ?_ ?_
   ·
    intro hb168 Hz; try simp only [QQ, Qax] at hb168
    refine wct Hz ?_
    replace Hz := Hz.oz [1, 3, 6, 8, 9, 10, 11, 12, 13, 101]
    refine wp_region_lit ?_
    refine goCh Hz (.fa 7 rfl U25 <| .lb m96 9 U23 rfl rfl rfl <| .fa 0 rfl U30 <| .lb m96 12 U2 rfl rfl rfl <| .move rfl <| .build rfl fct9 fl30rpu rfl (by dsimp only [setL, List.set] <;> rfl) .nil) fun Az Hz => ?_
    have m177 := m96.freezeR 14 rfl
    refine plz (e_litR Hz m177 200 (mm := 2) rfl (.cons rfl rfl (.cons (.v _) (.cons (m177.rd (i := 14) rfl) .nil)) .nil) U23 fct14 rfl rfl rfl rfl rfl fun g176 Az w178 Hz m178 => ?_)
    have m180 := m178.freezeR 200 rfl
    refine plz (e_appR Hz m180 10 rfl rfl rfl (m180.rd (i := 200) rfl) U23 fct14 rfl rfl (by decide) (by have := push_len fi cnt (W2.take k); rw [List.length_take] at this; simp; omega) rfl fun p179 c179 Az w181 Hz m181 => ?_)
    refine goCh Hz (.fieldAddr (off := 7) rfl U25 rfl (s := 0) (by kernel_rfl) rfl .nil) fun Az Hz => ?_
    refine plz (st1 Hz m181 9 fct23 fun w183 m183 _ => ?_)
    refine znl (hK8 _ _ ?_)
    replace Hz := Hz.oz [1, 3, 6, 8, 9, 10, 11, 12, 13, 101]
    refine wp_region_lit ?_
    refine goCh Hz (.move rfl <| .add rfl rfl (r := ((mk + (k + 1) : Nat) : Int)) (by rw [IntWalk.i64_in _ (by omega)]; omega) <| .assign rfl .nil) fun Az Hz => ?_
    refine wpList_nil ?_
    show ∃ n', n' < _ ∧ _
    have hE : (pushL fi cnt (W2.take k)).map wrD ++ [[D.v (.int .i64 xs), .l 2 ((itemsL fi cnt xl).map itD)]] = (pushL fi cnt (W2.take (k + 1))).map wrD := by rw [push_yes hes2 (by have h9 := hb168; rw [List.length_map] at h9; omega), List.map_append]; rfl
    rw [hE] at m183
    exact ⟨tq - mk - (k + 1), by omega, k + 1, _, _, _, _, _, by omega, rfl, Hz.only [1, 3, 6, 8, 9, 10], m183.ren [(1, 1), (6, 6), (9, 9), (10, 10), (3, 3)] (by decide)⟩
   intro hb168 Hz; try simp only [QQ, Qax] at hb168
   refine wcf Hz ?_
   refine zss (hK8 _ _ ?_)
   replace Hz := Hz.oz [1, 3, 6, 8, 9, 10, 11, 12, 13, 101]
   refine wp_region_lit ?_
   refine goCh Hz (.move rfl <| .add rfl rfl (r := ((mk + (k + 1) : Nat) : Int)) (by rw [IntWalk.i64_in _ (by omega)]; omega) <| .assign rfl .nil) fun Az Hz => ?_
   refine wpList_nil ?_
   show ∃ n', n' < _ ∧ _
   have hE : (pushL fi cnt (W2.take k)) = pushL fi cnt (W2.take (k + 1)) := (push_no hes2 (by have h9 := hb168; rw [List.length_map] at h9; omega)).symm
   rw [hE] at m96
   exact ⟨tq - mk - (k + 1), by omega, k + 1, _, _, _, _, _, by omega, rfl, Hz.only [1, 3, 6, 8, 9, 10], m96.ren [(1, 1), (6, 6), (9, 9), (10, 10), (3, 3)] (by decide)⟩
  intro hb78 Hz; try simp only [QQ, Qax] at hb78
  revert Hz
  obtain rfl : k = W2.length := by omega
  intro Hz
  refine wcf Hz ?_
  refine wp_exit ?_
  refine hK6 _ _ ?_
  refine zsr fun K15 hK15 => ?_
  refine goCh Hz (.loadBR m73 (i := 9) rfl rfl U25 rfl fct7 (by simp) (by dsimp only [List.drop, List.take] <;> rfl) .nil) fun Az Hz => ?_
  refine plz (stw Hz m73 6 fct7 fun w194 m194 _ => ?_)
  refine gz hK15 Hz (.assign rfl .nil) fun Az Hz => ?_
  refine rtd (retCT (fn := Tryz.f36) Hz m194 (i := 6) rfl rfl rfl rfl U25 rfl fct7 ?_)
  rw [List.take_length] at *
  have m196 := m194.freezeR 10 rfl
  rw [hW2]
  exact ⟨_, _, rfl, m196.ren [(3, 3), (9, 10)] (by decide)⟩
 refine e_alloc Hz m36 72 fct16 rfl fun g197 Az w198 Hz m198 _ _ => ?_
 refine ⟨fun _ => (m198.to ⟨il, trivial⟩), ?_⟩
 refine so 10 ?_
 refine ecb Hz Tryz.func37 rfl m198 (rlen_m _ _ _ _ _ _ _ _ _ _ _ _ _ _ _ _ _ _) fun Az w199 Hz m200 => ?_
 refine ⟨m200.to ⟨il, trivial⟩, ?_⟩
 refine goA hP36 [11, 12] 2 10239 16383 Hz (m200.to ⟨il, trivial⟩) (.p (fun _ _ h_ => y_min h_ rfl rfl (r := (tq : Int)) htq) <| .build rfl fct16 fl25rpu rfl (by dsimp only [setL, List.set] <;> rfl) .nil) fun Az Hz => ?_
 refine so 14 ?_
 refine stw Hz m200 72 fct7 fun w204 m204 _ => ?_
 refine ⟨m204.to ⟨il, trivial⟩, ?_⟩
 refine wpAnyE_done (by kernel_rfl) ?_ _
 refine hK4 _ _ ?_
 replace Hz := Hz.oz [1, 3, 6, 7, 8, 25, 9]
 refine zsr fun K16 hK16 => ?_
 refine goCh Hz (.fa 8 rfl U34 <| .lb m204 70 U2 rfl rfl rfl <| .fa 5 rfl U25 <| .lb m204 72 U2 rfl rfl rfl <| .c rfl (fun _ h_ => y_min h_ rfl rfl rfl) <| .fa 6 rfl U25 .nil) fun Az Hz => ?_
 refine plz (st1 Hz m204 72 fct22 fun w218 m218 _ => ?_)
 refine znl (hK16 _ _ ?_)
 refine wsk fun K17 hK17 => ?_
 replace Hz := Hz.oz [1, 3, 6, 7, 8, 25, 9]
 refine regS Hz (.fa 4 rfl U25 <| .lb m218 72 U2 rfl rfl rfl <| .assign rfl .nil) fun Az Hz => ?_
 refine wp_block ?_
 refine wp_loop_ghost (fun g a w => ∃ (k B3 B6 B9 : Nat) (p : Option Addr) (c : Nat), mk + k ≤ tq ∧ g = tq - mk - k ∧ Has 112 [(1, .int .i64 ch), (3, .pointer (some ⟨B3, 0, none⟩)), (6, .pointer (some ⟨B6, 0, none⟩)), (8, .int .i64 cnt), (9, .pointer (some ⟨B9, 0, none⟩)), (10, .int .i64 ((mk + k : Nat) : Int))] a ∧ MemOk X w0 [(1, .box B3 34 [.int .i64 vo, .int .i64 bl, .int .i64 sz, .int .i64 pe, .slice pp place.length cp, .int .i64 to, .int .i64 ne, .bool hi, .int .i64 fl, .slice pn nn9 cn9, .slice pw (ws.map wrD).length cw]), (6, .box B6 25 [.int .i64 0, .int .i64 0, .int .i64 0, .int .i64 0, .int .i64 0, .int .i64 0, .int .i64 0, .slice none 0 0]), (9, .box B9 25 [.int .i64 vo, .int .i64 ch, .int .i64 cnt, .int .i64 sz, .int .i64 mk, .int .i64 tq, .int .i64 (min fl tq), .slice p ((pushL fi cnt (W2.take k)).map wrD).length c]), (10, .row (.slice p ((pushL fi cnt (W2.take k)).map wrD).length c) 30 2 ((pushL fi cnt (W2.take k)).map wrD)), (3, .dat (.slice pw (ws.map wrD).length cw) (.l 2 (ws.map wrD)))] w) (tq - mk) ?_ ?_
 · have mz := m218.nilR 10 30 2
   exact ⟨0, _, _, _, _, _, by omega, rfl, Hz.only [1, 3, 6, 8, 9, 10], mz.ren [(1, 70), (6, 71), (9, 72), (10, 10), (3, 3)] (by decide)⟩
 clear Hz m218
 rintro g Az w223 ⟨k, B3, B6, B9, p, c, hkl, hg, Hz, m223⟩
 refine wsk fun K18 hK18 => ?_
 refine regS Hz (.move rfl <| .fa 5 rfl U25 <| .lb m223 9 U2 rfl rfl rfl <| .lss rfl rfl .nil) fun Az Hz => ?_
 refine bc Hz 55 ?_ ?_
 ·
  intro hb228 Hz; try simp only [QQ, Qax] at hb228
  have hk : k < W2.length := by omega
  obtain ⟨⟨xs, xl⟩, hes2⟩ : ∃ e, W2[k]? = some e := ⟨_, List.getElem?_eq_getElem hk⟩
  have hes : ws[mk + k]? = some (xs, xl) := by rw [← hW2, List.getElem?_drop, List.getElem?_take] at hes2; split at hes2; (exact hes2); (cases hes2)
  have hok2 := hok _ (List.mem_of_getElem? hes)
  dsimp only at hok2
  have hib2 := hib _ (List.mem_of_getElem? hes)
  dsimp only at hib2
  refine wct Hz ?_
  refine zss (hK18 _ _ ?_)
  refine wsk fun K19 hK19 => ?_
  refine wp_block ?_
  refine regS Hz (.assign rfl .nil) fun Az Hz => ?_
  refine zsr fun K20 hK20 => ?_
  refine goCh Hz (.fa 10 rfl U34 <| .lb m223 1 U23 rfl rfl rfl <| .move rfl .nil) fun Az Hz => ?_
  obtain ⟨b237, o237, vs237, hp237, hR237, ho237, m237⟩ := m223.openR (i := 3) rfl ((mk + k)) (r := [.v (.int .i64 xs), .l 2 (xl.map itD)]) (wrD_get hes) 100 rfl
  revert Hz
  cases hp237; clear m223 ho237
  rcases hR237 with _ | ⟨hd237_0, _ | ⟨hd237_1, _ | _⟩⟩
  obtain rfl := hd237_0.v_out
  clear hd237_0
  obtain ⟨p238, c238, hv238, hc238⟩ := hd237_1.l_shape; subst hv238
  intro Hz
  have m238 := m237.dat 101 rfl (hd237_1.cast (fun _ h => (free_add rfl h))); clear m237 hd237_1
  refine goCh Hz (.c rfl (fun _ h_ => y_idx h_ rfl rfl U23 fct8 ((mk + k)) rfl (by rw [List.length_map]; omega)) <| .loadCR m238 (i := 100) rfl rfl U30 rfl fct8 .nil) fun Az Hz => ?_
  refine plz (e_alloc Hz m238 102 fct9 rfl fun g241 Az w242 Hz m242 _ _ => ?_)
  refine plz (stw Hz m242 102 fct8 fun w243 m243 _ => ?_)
  refine znl (hK20 _ _ ?_)
  refine wsk fun K21 hK21 => ?_
  replace Hz := Hz.oz [1, 3, 6, 8, 9, 10, 11, 12]
  refine regS Hz (.assign rfl .nil) fun Az Hz => ?_
  refine wp_block ?_
  refine wp_loop_ghost (fun g a w => ∃ (j B3 B6 B9 B12 : Nat) (p p2 px : Option Addr) (c c2 cx9 : Nat), j ≤ xl.length ∧ g = xl.length - j ∧ Has 112 [(1, .int .i64 ch), (3, .pointer (some ⟨B3, 0, none⟩)), (6, .pointer (some ⟨B6, 0, none⟩)), (8, .int .i64 cnt), (9, .pointer (some ⟨B9, 0, none⟩)), (10, .int .i64 ((mk + k : Nat) : Int)), (11, .slice p2 ((itemsL fi cnt (xl.take j)).map itD).length c2), (12, .pointer (some ⟨B12, 0, none⟩)), (13, .int .i64 j)] a ∧ MemOk X w0 [(1, .box B3 34 [.int .i64 vo, .int .i64 bl, .int .i64 sz, .int .i64 pe, .slice pp place.length cp, .int .i64 to, .int .i64 ne, .bool hi, .int .i64 fl, .slice pn nn9 cn9, .slice (some ⟨b237, o237, none⟩) (ws.map wrD).length cw]), (6, .box B6 25 [.int .i64 0, .int .i64 0, .int .i64 0, .int .i64 0, .int .i64 0, .int .i64 0, .int .i64 0, .slice none 0 0]), (9, .box B9 25 [.int .i64 vo, .int .i64 ch, .int .i64 cnt, .int .i64 sz, .int .i64 mk, .int .i64 tq, .int .i64 (min fl tq), .slice p ((pushL fi cnt (W2.take k)).map wrD).length c]), (10, .row (.slice p ((pushL fi cnt (W2.take k)).map wrD).length c) 30 2 ((pushL fi cnt (W2.take k)).map wrD)), (3, .dat (.slice (some ⟨b237, o237, none⟩) (ws.map wrD).length cw) (.l 2 (ws.map wrD))), (12, .box B12 30 [.int .i64 xs, .slice px (xl.map itD).length cx9]), (13, .dat (.slice px (xl.map itD).length cx9) (.l 2 (xl.map itD))), (14, .row (.slice p2 ((itemsL fi cnt (xl.take j)).map itD).length c2) 78 2 ((itemsL fi cnt (xl.take j)).map itD))] w) (xl.length) ?_ ?_
  · have mz := m243.nilR 14 78 2
    exact ⟨0, _, _, _, _, _, _, _, _, _, _, Nat.zero_le _, rfl, Hz.only [1, 3, 6, 8, 9, 10, 11, 12, 13], mz.ren [(1, 1), (6, 6), (9, 9), (10, 10), (3, 3), (12, 102), (13, 101), (14, 14)] (by decide)⟩
  clear Hz m243
  rintro g Az w246 ⟨j, B3, B6, B9, B12, p, p2, px, c, c2, cx9, hjl, hg2, Hz, m246⟩
  refine wsk fun K22 hK22 => ?_
  refine regS Hz (.move rfl <| .fa 1 rfl U30 <| .lb m246 12 U28 rfl rfl rfl <| .len rfl U28 <| .lss rfl rfl .nil) fun Az Hz => ?_
  refine bc Hz 67 ?_ ?_
  ·
   intro hb252 Hz; try simp only [QQ, Qax] at hb252
   rw [List.length_map] at hb252
   have hj : j < xl.length := by omega
   obtain ⟨⟨xb, xd⟩, hxs⟩ : ∃ e, xl[j]? = some e := ⟨_, List.getElem?_eq_getElem hj⟩
   have hxb := hib2 _ (List.mem_of_getElem? hxs)
   dsimp only at hxb
   have hed := hok2.2 _ (List.mem_of_getElem? hxs)
   dsimp only at hed
   refine wct Hz ?_
   refine zss (hK22 _ _ ?_)
   refine wsk fun K23 hK23 => ?_
   refine wp_block ?_
   refine wsk fun K24 hK24 => ?_
   obtain ⟨b253, o253, vs253, hp253, hR253, ho253, m253⟩ := m246.openR (i := 13) rfl (j) (r := [.v (.int .i64 xb), .ns .u8 xd]) (itD_get hxs) 200 rfl
   revert Hz
   cases hp253; clear m246 ho253
   rcases hR253 with _ | ⟨hd253_0, _ | ⟨hd253_1, _ | _⟩⟩
   obtain rfl := hd253_0.v_out
   clear hd253_0
   obtain ⟨p254, c254, hv254, hc254⟩ := hd253_1.ns_shape; subst hv254
   intro Hz
   have m254 := m253.dat 201 rfl (hd253_1.cast (fun _ h => (free_add rfl h))); clear m253 hd253_1
   have m255 := m254.oz [1, 3, 6, 9, 10, 12, 13, 14, 200, 201]
   refine region_p 12 (B := [(1, _), (3, _), (6, _), (9, _), (10, _), (12, _), (13, _), (14, _), (200, _), (201, _)]) (m255.to ⟨il, il, il, il, il, il, il, il, il, il, trivial⟩) m255 (by kernel_rfl) (fun w256 hP256 m256 => ?_); clear m255
   refine goR hP256 [0, 1, 2, 3, 4, 5, 6, 7, 8, 9, 10, 11] [1, 5, 8] 12 0 4095 Hz (m256.to ⟨il, il, il, il, il, il, il, il, il, il, trivial⟩) (.fa 1 rfl U30 <| .lb hh 12 U28 rfl rfl rfl <| .move rfl <| .p (fun _ _ h_ => y_idx h_ rfl rfl U28 fct25 (j) rfl (by simpa using hj)) <| .fieldAddrQ 0 rfl U78 rfl (s := 0) (by kernel_rfl) rfl <| .loadC0 hh (i := 200) rfl rfl U3 rfl <| .move rfl <| .fa 3 rfl U34 <| .lb hh 1 U3 rfl rfl rfl <| .mul rfl rfl (r := fi) (by rw [hfi]; exact IntWalk.i64_in _ (by omega)) <| .sub rfl rfl (r := xb - fi) (IntWalk.i64_in _ (by omega)) <| .assign rfl .nil) fun Az Hz => ?_
   refine wpAnyE_done (by kernel_rfl) ?_ _
   refine hK24 _ _ ?_
   replace Hz := Hz.oz [1, 3, 6, 8, 9, 10, 11, 12, 13, 14]
   refine zsr fun K25 hK25 => ?_
   refine goCh Hz (.move rfl <| .geq rfl rfl <| .move rfl .nil) fun Az Hz => ?_
   refine bc Hz 83 ?_ ?_
   ·
    intro hb276 Hz; try simp only [QQ, Qax] at hb276
    refine gz hK25 Hz (.moveZ rfl <| .moveZ rfl <| .lssZ rfl rfl <| .pickT rfl rfl <| .nil) fun Az Hz => ?_
    refine bc Hz 87 ?_ ?_
    ·
     intro hb281 Hz; try simp only [QQ, Qax] at hb281
     refine wct Hz ?_
     refine wp_region_lit ?_
     refine goCh Hz (.move rfl <| .move rfl <| .fa 1 rfl U30 <| .lb m256 12 U28 rfl rfl rfl <| .move rfl .nil) fun Az Hz => ?_
     obtain ⟨b287, o287, vs287, hp287, hR287, ho287, m287⟩ := m256.openR (i := 13) rfl (j) (r := [.v (.int .i64 xb), .ns .u8 xd]) (itD_get hxs) 202 rfl
     revert Hz
     cases hp287; clear m256 ho287
     rcases hR287 with _ | ⟨hd287_0, _ | ⟨hd287_1, _ | _⟩⟩
     obtain rfl := hd287_0.v_out
     clear hd287_0
     obtain ⟨p288, c288, hv288, hc288⟩ := hd287_1.ns_shape; subst hv288
     intro Hz
     have m288 := m287.dat 203 rfl (hd287_1.cast (fun _ h => (free_add rfl h))); clear m287 hd287_1
     refine goCh Hz (.c rfl (fun _ h_ => y_idx h_ rfl rfl U28 fct25 (j) rfl (by simpa using hj)) <| .fieldAddrQ 1 rfl U78 rfl (s := 0) (by kernel_rfl) rfl <| .loadC1 m288 (i := 202) (q := 1) rfl rfl rfl U22 rfl <| .build rfl fct17 fl78rpu rfl (by dsimp only [setL, List.set] <;> rfl) .nil) fun Az Hz => ?_
     refine plz (e_litR Hz m288 204 (mm := 2) rfl (.cons rfl rfl (.cons (.v _) (.cons (m288.rd (i := 203) rfl) .nil)) .nil) U28 fct15 rfl rfl rfl rfl rfl fun g293 Az w294 Hz m294 => ?_)
     have m296 := m294.freezeR 204 rfl
     refine plz (e_appR Hz m296 14 rfl rfl rfl (m296.rd (i := 204) rfl) U28 fct15 rfl rfl (by decide) (by have := itemsL_len fi cnt (xl.take j); rw [List.length_take] at this; simp; omega) rfl fun p295 c295 Az w297 Hz m297 => ?_)
     refine gz hK23 Hz (.assign rfl .nil) fun Az Hz => ?_
     replace Hz := Hz.oz [1, 3, 6, 8, 9, 10, 11, 12, 13, 83, 87]
     refine wp_region_lit ?_
     refine goCh Hz (.move rfl <| .inc (j + 1) <| .assign rfl .nil) fun Az Hz => ?_
     refine wpList_nil ?_
     show ∃ n', n' < _ ∧ _
     have hE : (itemsL fi cnt (xl.take j)).map itD ++ [[D.v (.int .i64 (xb - fi)), .ns .u8 xd]] = (itemsL fi cnt (xl.take (j + 1))).map itD := by rw [itemsL_yes hxs (by omega), List.map_append]; rfl
     rw [hE] at m297 Hz
     exact ⟨xl.length - (j + 1), by omega, j + 1, _, _, _, _, _, _, _, _, _, _, by omega, rfl, Hz.only [1, 3, 6, 8, 9, 10, 11, 12, 13], m297.ren [(1, 1), (6, 6), (9, 9), (10, 10), (3, 3), (12, 12), (13, 13), (14, 14)] (by decide)⟩
    intro hb281 Hz; try simp only [QQ, Qax] at hb281
    refine wcf Hz ?_
    refine zss (hK23 _ _ ?_)
    replace Hz := Hz.oz [1, 3, 6, 8, 9, 10, 11, 12, 13, 83, 87]
    refine wp_region_lit ?_
    refine goCh Hz (.move rfl <| .inc (j + 1) <| .assign rfl .nil) fun Az Hz => ?_
    refine wpList_nil ?_
    show ∃ n', n' < _ ∧ _
    have hE : (itemsL fi cnt (xl.take j)) = itemsL fi cnt (xl.take (j + 1)) := (itemsL_no hxs (by omega)).symm
    rw [hE] at m256 Hz
    exact ⟨xl.length - (j + 1), by omega, j + 1, _, _, _, _, _, _, _, _, _, _, by omega, rfl, Hz.only [1, 3, 6, 8, 9, 10, 11, 12, 13], m256.ren [(1, 1), (6, 6), (9, 9), (10, 10), (3, 3), (12, 12), (13, 13), (14, 14)] (by decide)⟩
   intro hb276 Hz; try simp only [QQ, Qax] at hb276
   refine gz hK25 Hz (.sk <| .sk <| .sk <| .pickF rfl rfl <| .nil) fun Az Hz => ?_
   refine wcf Hz ?_
   refine zss (hK23 _ _ ?_)
   replace Hz := Hz.oz [1, 3, 6, 8, 9, 10, 11, 12, 13, 83, 87]
   refine wp_region_lit ?_
   refine goCh Hz (.move rfl <| .inc (j + 1) <| .assign rfl .nil) fun Az Hz => ?_
   refine wpList_nil ?_
   show ∃ n', n' < _ ∧ _
   have hE : (itemsL fi cnt (xl.take j)) = itemsL fi cnt (xl.take (j + 1)) := (itemsL_no hxs (by omega)).symm
   rw [hE] at m256 Hz
   exact ⟨xl.length - (j + 1), by omega, j + 1, _, _, _, _, _, _, _, _, _, _, by omega, rfl, Hz.only [1, 3, 6, 8, 9, 10, 11, 12, 13], m256.ren [(1, 1), (6, 6), (9, 9), (10, 10), (3, 3), (12, 12), (13, 13), (14, 14)] (by decide)⟩
  intro hb252 Hz; try simp only [QQ, Qax] at hb252
  rw [List.length_map] at hb252
  revert Hz
  obtain rfl : j = xl.length := by omega
  intro Hz
  rw [List.take_length] at m246 Hz
  refine wcf Hz ?_
  refine wp_exit ?_
  refine hK21 _ _ ?_
  refine regS Hz (.move rfl <| .len rfl U28 <| .gtr rfl rfl .nil) fun Az Hz => ?_
  refine bc Hz 101 ?_ ?_
  ·
   intro hb318 Hz; try simp only [QQ, Qax] at hb318
   refine wct Hz ?_
   replace Hz := Hz.oz [1, 3, 6, 8, 9, 10, 11, 12, 13, 101]
   refine wp_region_lit ?_
   refine goCh Hz (.fa 7 rfl U25 <| .lb m246 9 U23 rfl rfl rfl <| .fa 0 rfl U30 <| .lb m246 12 U2 rfl rfl rfl <| .move rfl <| .build rfl fct9 fl30rpu rfl (by dsimp only [setL, List.set] <;> rfl) .nil) fun Az Hz => ?_
   have m327 := m246.freezeR 14 rfl
   refine plz (e_litR Hz m327 200 (mm := 2) rfl (.cons rfl rfl (.cons (.v _) (.cons (m327.rd (i := 14) rfl) .nil)) .nil) U23 fct14 rfl rfl rfl rfl rfl fun g326 Az w328 Hz m328 => ?_)
   have m330 := m328.freezeR 200 rfl
   refine plz (e_appR Hz m330 10 rfl rfl rfl (m330.rd (i := 200) rfl) U23 fct14 rfl rfl (by decide) (by have := push_len fi cnt (W2.take k); rw [List.length_take] at this; simp; omega) rfl fun p329 c329 Az w331 Hz m331 => ?_)
   refine goCh Hz (.fieldAddr (off := 7) rfl U25 rfl (s := 0) (by kernel_rfl) rfl .nil) fun Az Hz => ?_
   refine plz (st1 Hz m331 9 fct23 fun w333 m333 _ => ?_)
   refine znl (hK19 _ _ ?_)
   replace Hz := Hz.oz [1, 3, 6, 8, 9, 10, 11, 12, 13, 101]
   refine wp_region_lit ?_
   refine goCh Hz (.move rfl <| .add rfl rfl (r := ((mk + (k + 1) : Nat) : Int)) (by rw [IntWalk.i64_in _ (by omega)]; omega) <| .assign rfl .nil) fun Az Hz => ?_
   refine wpList_nil ?_
   show ∃ n', n' < _ ∧ _
   have hE : (pushL fi cnt (W2.take k)).map wrD ++ [[D.v (.int .i64 xs), .l 2 ((itemsL fi cnt xl).map itD)]] = (pushL fi cnt (W2.take (k + 1))).map wrD := by rw [push_yes hes2 (by have h9 := hb318; rw [List.length_map] at h9; omega), List.map_append]; rfl
   rw [hE] at m333
   exact ⟨tq - mk - (k + 1), by omega, k + 1, _, _, _, _, _, by omega, rfl, Hz.only [1, 3, 6, 8, 9, 10], m333.ren [(1, 1), (6, 6), (9, 9), (10, 10), (3, 3)] (by decide)⟩
  intro hb318 Hz; try simp only [QQ, Qax] at hb318
  refine wcf Hz ?_
  refine zss (hK19 _ _ ?_)
  replace Hz := Hz.oz [1, 3, 6, 8, 9, 10, 11, 12, 13, 101]
  refine wp_region_lit ?_
  refine goCh Hz (.move rfl <| .add rfl rfl (r := ((mk + (k + 1) : Nat) : Int)) (by rw [IntWalk.i64_in _ (by omega)]; omega) <| .assign rfl .nil) fun Az Hz => ?_
  refine wpList_nil ?_
  show ∃ n', n' < _ ∧ _
  have hE : (pushL fi cnt (W2.take k)) = pushL fi cnt (W2.take (k + 1)) := (push_no hes2 (by have h9 := hb318; rw [List.length_map] at h9; omega)).symm
  rw [hE] at m246
  exact ⟨tq - mk - (k + 1), by omega, k + 1, _, _, _, _, _, by omega, rfl, Hz.only [1, 3, 6, 8, 9, 10], m246.ren [(1, 1), (6, 6), (9, 9), (10, 10), (3, 3)] (by decide)⟩
 intro hb228 Hz; try simp only [QQ, Qax] at hb228
 revert Hz
 obtain rfl : k = W2.length := by omega
 intro Hz
 refine wcf Hz ?_
 refine wp_exit ?_
 refine hK17 _ _ ?_
 refine zsr fun K26 hK26 => ?_
 refine goCh Hz (.loadBR m223 (i := 9) rfl rfl U25 rfl fct7 (by simp) (by dsimp only [List.drop, List.take] <;> rfl) .nil) fun Az Hz => ?_
 refine plz (stw Hz m223 6 fct7 fun w344 m344 _ => ?_)
 refine gz hK26 Hz (.assign rfl .nil) fun Az Hz => ?_
 refine rtd (retCT (fn := Tryz.f36) Hz m344 (i := 6) rfl rfl rfl rfl U25 rfl fct7 ?_)
 rw [List.take_length] at *
 have m346 := m344.freezeR 10 rfl
 rw [hW2]
 exact ⟨_, _, rfl, m346.ren [(3, 3), (9, 10)] (by decide)⟩
end Go.Proofs.YteglmahnkfgelaaGreat.K
end
section
namespace Go.Proofs.YteglmahnkfgelaaGreat.K
open Go.ChangeShapes Go.WideShapes Go.ChangeAt Go.RowKit
set_option linter.unusedVariables false
def encF : Nat → Nat → List Int
 | 0, n => [(n : Int)]
 | f + 1, n => if n < 128 then [(n : Int)] else ((n % 128 + 128 : Nat) : Int) :: encF f (n / 128)
def enc (n : Int) : List Int := encF 9 n.toNat
def encs (l : List Int) : List Int := l.flatMap enc
theorem or128 (y : Nat) : bits .or .u8 ((y : Int) % 256) 128 = ((y % 128 + 128 : Nat) : Int) := by
 have h : ∀ z : Fin 256, bits .or .u8 ((z.val : Nat) : Int) 128 = ((z.val % 128 + 128 : Nat) : Int) := by decide +kernel
 have := h ⟨y % 256, by omega⟩
 simp only at this
 rw [show ((y : Int) % 256) = ((y % 256 : Nat) : Int) by omega, this]
 omega
theorem encF_len : ∀ (f n : Nat), (encF f n).length ≤ f + 1 ∧ 1 ≤ (encF f n).length
 | 0, n => by simp [encF]
 | f + 1, n => by
   unfold encF
   have := encF_len f (n / 128)
   split <;> simp <;> omega
theorem enc_len (n : Int) : (enc n).length ≤ 10 ∧ 1 ≤ (enc n).length := encF_len 9 _
theorem encs_len : ∀ l : List Int, (encs l).length ≤ 10 * l.length
 | [] => by simp [encs]
 | a :: l => by
   have h1 := (enc_len a).1
   have h2 := encs_len l
   simp only [encs, List.flatMap_cons, List.length_append, List.length_cons] at h2 ⊢
   omega
theorem encs_snoc (l : List Int) (k : Nat) (h : k < l.length) : encs (l.take (k + 1)) = encs (l.take k) ++ enc (l.getD k 0) := by
 rw [List.take_succ_eq_append_getElem h]
 simp only [encs, List.flatMap_append, List.flatMap_cons, List.flatMap_nil, List.append_nil, List.getD, List.getElem?_eq_getElem h, Option.getD_some]
theorem len_take_le (l : List Int) (k : Nat) : (l.take k).length ≤ k := List.length_take_le _ _
set_option maxRecDepth 100000 in
set_option maxHeartbeats 2000000 in
theorem put_any (v : Value) (ns : List Int) (w : World) (hv : IsNums .u64 w v ns) (hb : ∀ j, j < ns.length → 0 ≤ ns.getD j 0 ∧ ns.getD j 0 ≤ 18446744073709551615) (hl : ns.length ≤ 1000) :
   Calls Tryz.prog 87 #[v] w fun e w' => ∃ u, e = .returned u ∧ w'.ownsRow w.heap.size 5 1 u (encs ns).length ((encs ns).map (Value.int .u8)) ∧ Below w.heap.size w w' := by
 obtain ⟨p, c, rfl, h⟩ := hv
 have H := Lib.hid h
 have HB := Lib.hid hb
 clear h hb
 go_enter Tryz.func87, Tryz.ntmps87
 go_wp2
 go_loopw [3, 8] (fun u i wr => ∃ k : Nat, k ≤ ns.length ∧ i = .int .i64 k ∧ wr.ownsRow w.heap.size 5 1 u (encs (ns.take k)).length ((encs (ns.take k)).map (Value.int .u8)) ∧ Below w.heap.size w wr) (fun _ i _ => ns.length - (intOf i).toNat)
 case atStart => exact ⟨0, Nat.zero_le _, rfl, World.ownsRow_nil _ _ _ _, Below.refl _ _⟩
 case round =>
   obtain ⟨k, hk, rfl, hown, hbel⟩ := hrel
   by_cases hlt : k < ns.length
   · obtain h0 | ⟨b, off, rfl, hblk, hcell⟩ := H.out
     · omega
     have hc : wr.cell? ⟨b, off + k, none⟩ = some (.int .u64 (ns.getD k 0)) := by rw [hbel.cell hblk]; exact hcell k hlt
     obtain ⟨x0, x1⟩ := HB.out k hlt
     obtain ⟨x, hx⟩ : ∃ x : Nat, ns.getD k 0 = (x : Int) := ⟨(ns.getD k 0).toNat, by omega⟩
     rw [hx] at hc x0 x1
     have HX := Lib.hid hx
     clear hcell hx
     have hlen := encs_len (ns.take k)
     have hlt2 := len_take_le ns k
     generalize hN : (encs (ns.take k)).length = N at hown hlen
     have HN := Lib.hid hN
     clear hN
     have hbz := hbel.size
     obtain ⟨wo, rfl⟩ : ∃ wo : World, wo = wr := ⟨_, rfl⟩
     go_wp2
     go_loopw [3, 5] (fun u y wr => ∃ (f n : Nat) (dn : List Int), y = .int .u64 (n : Int) ∧ n < 128 ^ (f + 1) ∧ (n : Int) ≤ 18446744073709551615 ∧ dn ++ encF f n = enc x ∧ wr.ownsRow w.heap.size 5 1 u (N + dn.length) ((encs (ns.take k) ++ dn).map (Value.int .u8)) ∧ Below w.heap.size w wr) (fun _ y _ => (intOf y).toNat)
     case atStart => exact ⟨9, x, [], rfl, by omega, by omega, rfl, by simpa using hown, hbel⟩
     case round =>
       obtain ⟨f, n, dn, rfl, hn1, hn2, hdn, hown2, hbel2⟩ := hrel
       have hdl : dn.length ≤ 10 := by
         have h1 := (enc_len x).1
         rw [← hdn] at h1
         simp at h1; omega
       have hsz2 := hbel2.size
       have HD := Lib.hid hdn
       have HP := Lib.hid hn1
       clear hdn hn1
       have ho := or128 n
       by_cases hge : 128 ≤ n
       · go_wp2_with (at_builtin; refine wpList_app1 rfl _ _ 22 rfl w.heap.size 5 .u8 1 Tryz.underlying22 info_u8 (by omega) _ _ _ rfl hown2 _ 1 rfl (by omega) hsz2 ?_; intro v' w' hown' hb')
         rcases f with _ | f
         · exfalso; have := HP.out; omega
         go_roundw
         case rel =>
           refine ⟨f, n / 128, dn ++ [((n % 128 + 128 : Nat) : Int)], by simp, ?_, by omega, ?_, ?_, hbel2.trans hb'⟩
           · have := HP.out
             rw [Nat.pow_succ] at this
             exact Nat.div_lt_of_lt_mul (by rw [Nat.mul_comm]; exact this)
           · rw [← HD.out, encF, if_neg (by omega)]; simp
           rw [show N + (dn ++ [((n % 128 + 128 : Nat) : Int)]).length = N + dn.length + 1 by simp; omega]
           simpa using hown'
         case measure => simp [intOf]; omega
       have hen : encF f n = [(n : Int)] := by cases f <;> simp [encF]; omega
       have HE := Lib.hid hen
       clear hen ho
       go_wp2_with (at_builtin; refine wpList_app1 rfl _ _ 22 rfl w.heap.size 5 .u8 1 Tryz.underlying22 info_u8 (by omega) _ _ _ rfl hown2 _ 1 rfl (by omega) hsz2 ?_; intro v' w' hown' hb')
       have hd2 := HD.out
       rw [HE.out] at hd2
       go_roundw
       case rel =>
         refine ⟨k + 1, by omega, by go_num, ?_, hbel2.trans hb'⟩
         rw [encs_snoc _ _ hlt, HX.out, ← hd2, List.length_append, HN.out, List.length_append]
         rw [show N + (dn.length + [(n : Int)].length) = N + dn.length + 1 by simp; omega]
         simpa using hown'
       case measure => simp [intOf]; omega
   obtain rfl : k = ns.length := by omega
   rw [List.take_length] at hown
   go_wp2
   go_ret
   exact ⟨_, rfl, hown, hbel⟩
end Go.Proofs.YteglmahnkfgelaaGreat.K
end
section
namespace Go.Proofs.YteglmahnkfgelaaGreat.K
open Go.ChangeShapes Go.WideShapes Go.ChangeAt Go.RowKit
set_option linter.unusedVariables false
set_option maxRecDepth 100000 in
set_option maxHeartbeats 2000000 in
theorem grow_nil (n : Nat) (w : World) (hn : n ≤ 1000000) :
   Calls Tryz.prog 86 #[.slice none 0 0, .int .i64 n] w fun e w' => ∃ u, e = .returned u ∧ w'.ownsRow w.heap.size 5 1 u 0 [] ∧ Below w.heap.size w w' := by
 by_cases h0 : n = 0
 · subst h0
   go_enter Tryz.func86, Tryz.ntmps86
   go_wp2
   go_ret
   exact ⟨_, rfl, World.ownsRow_nil _ _ _ _, Below.refl _ _⟩
 obtain ⟨i0, hi, hz0, hz1, hz2⟩ := info_parts info_u8
 have hbn : n * i0.bytes ≤ 140737488355328 := by rw [hz2]; omega
 have hrz : ∀ ty, (Builtin.append_ #[22, 3] ty #[.slice none 0 0, .int .i64 (n : Int)]).run Tryz.prog w =
     .ok (.slice (some ⟨w.heap.size, 0, none⟩) n (grownCap w n 0 5)) (w.drew.alloc (.cells (#[] ++ Builtin.zeroCells (Value.int .u8 0).cells n ++ Builtin.zeroCells (Value.int .u8 0).cells (grownCap w n 0 5 - n)) 5)) := fun ty => by
   have h := Lib.run_append_grow_zeros w 22 3 ty 5 i0 (.int .u8 0) .i64 .i64 Tryz.underlying22 Tryz.underlying3 hi hz0 none 0 0 [] (run_firstCells_none w.drew i0.size 0 0 0) n (by omega) (by omega) (by omega) (by omega) (by omega)
     (by rw [Nat.zero_add]; exact growslice_fits (by omega) hbn)
   rw [Nat.zero_add] at h
   exact h
 have hG := grownCap_ge w n 0 5
 have hM := grownCap_le_maxLen w n 0 5 (by unfold maxLen; omega)
 generalize grownCap w n 0 5 = G at hrz hG hM
 have hown : (w.drew.alloc (.cells (#[] ++ Builtin.zeroCells (Value.int .u8 0).cells n ++ Builtin.zeroCells (Value.int .u8 0).cells (G - n)) 5)).ownsRow w.heap.size 5 1 (.slice (some ⟨w.heap.size, 0, none⟩) 0 G) 0 [] := by
   refine World.ownsRow_made w.drew _ G (Nat.le_refl _) hM ?_
   have h1 : (Value.int .u8 0).cells.size = 1 := rfl
   simp [size_zeroCells, h1]
   omega
 have hbel : Below w.heap.size w (w.drew.alloc (.cells (#[] ++ Builtin.zeroCells (Value.int .u8 0).cells n ++ Builtin.zeroCells (Value.int .u8 0).cells (G - n)) 5)) := ((Below.refl _ w).drew).alloc (Nat.le_refl _) _
 generalize (w.drew.alloc (.cells (#[] ++ Builtin.zeroCells (Value.int .u8 0).cells n ++ Builtin.zeroCells (Value.int .u8 0).cells (G - n)) 5)) = W' at hrz hown hbel
 have HO := Lib.hid hown
 have HB := Lib.hid hbel
 clear hown hbel hi hz0 hz1 hz2
 unfold maxLen at hM
 go_enter Tryz.func86, Tryz.ntmps86
 go_wp2_with (at_builtin; refine Lib.wpList_append_run _ rfl _ _ _ _ rfl _ _ rfl rfl _ _ (hrz _) ?_)
 all_goals (go_ret; exact ⟨_, rfl, HO.out, HB.out⟩)
def IsLists (w : World) (v : Value) (ls : List (List Int)) : Prop :=
 ∃ a c, v = .slice a ls.length c ∧ (ls.length = 0 ∨ ∃ b off, a = some ⟨b, off, none⟩ ∧ b < w.heap.size ∧ ∀ j, j < ls.length → ∃ u, w.cell? ⟨b, off + j, none⟩ = some u ∧ IsNums .u8 w u (ls.getD j []))
def sumLen (ls : List (List Int)) : Nat := ls.flatten.length
theorem flatten_snoc (ls : List (List Int)) (k : Nat) (h : k < ls.length) : (ls.take (k + 1)).flatten = (ls.take k).flatten ++ ls.getD k [] := by
 rw [List.take_succ_eq_append_getElem h]; simp only [List.flatten_append, List.flatten_cons, List.flatten_nil, List.append_nil, List.getD, List.getElem?_eq_getElem h, Option.getD_some]
theorem sumLen_snoc (ls : List (List Int)) (k : Nat) (h : k < ls.length) : sumLen (ls.take (k + 1)) = sumLen (ls.take k) + (ls.getD k []).length := by
 unfold sumLen; rw [flatten_snoc _ _ h, List.length_append]
theorem sumLen_take (ls : List (List Int)) (k : Nat) : sumLen (ls.take k) ≤ sumLen ls := by
 have : ls.flatten = (ls.take k).flatten ++ (ls.drop k).flatten := by rw [← List.flatten_append, List.take_append_drop]
 unfold sumLen; rw [this]; simp
set_option maxRecDepth 100000 in
set_option maxHeartbeats 2000000 in
theorem join_any (v : Value) (ls : List (List Int)) (w : World) (hv : IsLists w v ls) (hl : ls.length ≤ 1000) (hs : sumLen ls ≤ 1000000) :
   Calls Tryz.prog 38 #[v] w fun e w' => ∃ u, e = .returned u ∧ w'.ownsRow w.heap.size 5 1 u ls.flatten.length (ls.flatten.map (Value.int .u8)) ∧ Below w.heap.size w w' := by
 obtain ⟨p, c, rfl, h⟩ := hv
 have H := Lib.hid h
 clear h
 go_enter Tryz.func38, Tryz.ntmps38
 go_wp2
 go_loop [3, 11] (fun n i => ∃ k : Nat, k ≤ ls.length ∧ i = .int .i64 k ∧ n = .int .i64 (sumLen (ls.take k) : Nat)) (fun _ i => ls.length - (intOf i).toNat)
 case atStart => exact ⟨0, Nat.zero_le _, rfl, rfl⟩
 case round =>
   obtain ⟨k, hk, rfl, rfl⟩ := hrel
   have hst := sumLen_take ls k
   obtain ⟨S0, hS0⟩ : ∃ S, sumLen (ls.take k) = S := ⟨_, rfl⟩
   by_cases hlt : k < ls.length
   · obtain h0 | ⟨b, off, rfl, hblk, hcell⟩ := H.out
     · omega
     obtain ⟨u, hc, pu, cu, rfl, -⟩ := hcell k hlt
     have hsn := sumLen_snoc ls k hlt
     obtain ⟨L, hL⟩ : ∃ L, (ls.getD k []).length = L := ⟨_, rfl⟩
     rw [hL] at hsn hc
     have hst2 := sumLen_take ls (k + 1)
     rw [hsn] at hst2
     rw [hS0] at hst hsn hst2 ⊢
     have HS := Lib.hid hsn
     have H0 := Lib.hid hS0
     have H1 := Lib.hid hL
     clear hsn hS0 hcell hL
     go_wp2
     go_round
     case rel => exact ⟨k + 1, by omega, by go_num, by rw [HS.out, Int.natCast_add]⟩
     case measure => simp [intOf]; omega
   obtain rfl : k = ls.length := by omega
   rw [List.take_length] at hst ⊢
   clear hS0
   go_wp2_with fail
   refine (grow_nil (sumLen ls) w hs).mono ?_
   rintro e w1 ⟨u, rfl, hown, hb⟩
   go_wp2
   go_loopw [6, 24] (fun u i wr => ∃ k : Nat, k ≤ ls.length ∧ i = .int .i64 k ∧ wr.ownsRow w.heap.size 5 1 u (sumLen (ls.take k)) ((ls.take k).flatten.map (Value.int .u8)) ∧ Below w.heap.size w wr) (fun _ i _ => ls.length - (intOf i).toNat)
   case atStart => exact ⟨0, Nat.zero_le _, rfl, by simpa [sumLen] using hown, hb⟩
   case round =>
     obtain ⟨k, hk, rfl, hown, hbel⟩ := hrel
     have hst := sumLen_take ls k
     by_cases hlt : k < ls.length
     · obtain h0 | ⟨b, off, rfl, hblk, hcell⟩ := H.out
       · omega
       obtain ⟨u, hc0, hu⟩ := hcell k hlt
       have hc : wr.cell? ⟨b, off + k, none⟩ = some u := by rw [hbel.cell hblk]; exact hc0
       have hu2 : IsNums .u8 wr u (ls.getD k []) := hu.below hbel (Nat.le_refl _)
       have HS := Lib.hid (sumLen_snoc ls k hlt)
       have HF := Lib.hid (flatten_snoc ls k hlt)
       have hst2 := sumLen_take ls (k + 1)
       rw [HS.out] at hst2
       have hsz := hbel.size
       have HU := Lib.hid hu2
       obtain ⟨S0, hS0⟩ : ∃ S, sumLen (ls.take k) = S := ⟨_, rfl⟩
       rw [hS0] at hst hst2 hown
       have H0 := Lib.hid hS0
       obtain ⟨L, hL⟩ : ∃ L, (ls.getD k []).length = L := ⟨_, rfl⟩
       rw [hL] at hst2
       have H1 := Lib.hid hL
       clear hcell hc0 hu hu2 hS0 hL
       go_wp2_with (at_builtin; refine wpList_appN rfl _ _ 22 rfl w.heap.size 5 .u8 1 Tryz.underlying22 info_u8 (by omega) _ _ _ rfl hown _ _ rfl HU.out (by rw [H1.out]; omega) hsz ?_; intro v' w' hown' hb')
       go_roundw
       case rel => exact ⟨k + 1, by omega, by go_num, by rw [HS.out, HF.out, H0.out, List.map_append]; exact hown', hbel.trans hb'⟩
       case measure => simp [intOf]; omega
     obtain rfl : k = ls.length := by omega
     rw [List.take_length] at hown
     go_wp2
     go_ret
     exact ⟨_, rfl, hown, hbel⟩
end Go.Proofs.YteglmahnkfgelaaGreat.K
end
section
namespace Go.Proofs.YteglmahnkfgelaaGreat.K
open Go.ChangeShapes Go.WideShapes Go.ChangeAt Go.RowKit
set_option linter.unusedVariables false
def NumsLt (N : Nat) (k : IntKind) (w : World) (v : Value) (zs : List Int) : Prop :=
 ∃ a c, v = .slice a zs.length c ∧ zs.length ≤ c ∧ c ≤ 9223372036854775807 ∧ (zs.length = 0 ∨ ∃ b off, a = some ⟨b, off, none⟩ ∧ b < N ∧ ∀ j, j < zs.length → w.cell? ⟨b, off + j, none⟩ = some (.int k (zs.getD j 0)))
theorem NumsLt.below {N : Nat} {k : IntKind} {w w' : World} {v : Value} {zs : List Int} (h : NumsLt N k w v zs) (hb : Below N w w') : NumsLt N k w' v zs := by
 obtain ⟨a, c, rfl, hc1, hc2, h | ⟨b, off, rfl, h1, h2⟩⟩ := h
 · exact ⟨a, c, rfl, hc1, hc2, .inl h⟩
 refine ⟨_, c, rfl, hc1, hc2, .inr ⟨b, off, rfl, h1, fun j hj => ?_⟩⟩
 rw [hb.cell (by show b < N; omega)]
 exact h2 j hj
theorem NumsLt.nums {N : Nat} {k : IntKind} {w : World} {v : Value} {zs : List Int} (h : NumsLt N k w v zs) (hN : N ≤ w.heap.size) : IsNums k w v zs := by
 obtain ⟨a, c, rfl, hc1, hc2, h | ⟨b, off, rfl, h1, h2⟩⟩ := h
 · exact ⟨a, c, rfl, .inl h⟩
 exact ⟨_, c, rfl, .inr ⟨b, off, rfl, by omega, h2⟩⟩
inductive Dec where
 | ok (n : Nat) (k : Nat)
 | err (e : Int)
def dec : Nat → Nat → List Int → Dec
 | _, _, [] => .err 21
 | acc, i, b :: r => if (i = 9 ∧ 1 < b) ∨ (0 < i ∧ b = 0) then .err 20 else
     if b < 128 then .ok (acc + (b % 128).toNat * 2 ^ (7 * i)) (i + 1) else dec (acc + (b % 128).toNat * 2 ^ (7 * i)) (i + 1) r
theorem andNot128 (b : Int) (h0 : 0 ≤ b) (h1 : b ≤ 255) : bits .andNot .u8 b 128 = b % 128 := by
 have h : ∀ z : Fin 256, bits .andNot .u8 ((z.val : Nat) : Int) 128 = ((z.val : Nat) : Int) % 128 := by decide +kernel
 have := h ⟨b.toNat, by omega⟩
 simp only at this
 rw [show ((b.toNat : Nat) : Int) = b by omega] at this
 exact this
theorem or_shift (acc k : Nat) (x : Int) (hacc : acc < 2 ^ (7 * k)) (hk : k ≤ 9) (x0 : 0 ≤ x) (hx : x ≤ 255) (h9 : k = 9 → x ≤ 1) :
   bits .or .u64 (acc : Int) (IntKind.u64.wrap (x % 128 * 2 ^ (7 * k))) = ((acc + (x % 128).toNat * 2 ^ (7 * k) : Nat) : Int) := by
 obtain ⟨y, hy⟩ : ∃ y : Nat, x % 128 = y := ⟨(x % 128).toNat, by omega⟩
 have hy1 : y < 128 := by omega
 have hy9 : k = 9 → y ≤ 1 := fun h => by have := h9 h; omega
 rw [hy]
 have hb : y * 2 ^ (7 * k) < 2 ^ 64 := by
   by_cases e : k = 9
   · subst e
     have := hy9 rfl
     have : y * 2 ^ (7 * 9) ≤ 1 * 2 ^ (7 * 9) := Nat.mul_le_mul_right _ this
     exact Nat.lt_of_le_of_lt this (by decide)
   have h1 : 2 ^ (7 * k) ≤ 2 ^ 56 := Nat.pow_le_pow_right (by decide) (by omega)
   have h2 : y * 2 ^ (7 * k) ≤ 127 * 2 ^ 56 := Nat.mul_le_mul (by omega) h1
   exact Nat.lt_of_le_of_lt h2 (by decide)
 have ha : acc < 2 ^ 64 := Nat.lt_of_lt_of_le hacc (Nat.pow_le_pow_right (by decide) (by omega))
 have hcast : ((y : Int) * 2 ^ (7 * k)) = ((y * 2 ^ (7 * k) : Nat) : Int) := by simp
 have hw : ∀ n : Int, 0 ≤ n → n < 2 ^ 64 → IntKind.u64.wrap n = n := fun n h0 h1 => by rw [IntKind.wrap_u64]; omega
 rw [hcast, hw _ (by omega) (by have : ((y * 2 ^ (7 * k) : Nat) : Int) < ((2 ^ 64 : Nat) : Int) := Int.ofNat_lt.2 hb; simpa using this)]
 have h := (bits_nat .u64 64 (by decide) hw acc (y * 2 ^ (7 * k)) ha hb).2
 rw [h]
 have h2 : 2 ^ (7 * k) * y + acc = 2 ^ (7 * k) * y ||| acc := Nat.two_pow_add_eq_or_of_lt hacc y
 rw [Nat.or_comm, Nat.mul_comm y, ← h2, Int.toNat_natCast, Nat.mul_comm, Nat.add_comm]
theorem acc_bound (acc k : Nat) (x : Int) (hacc : acc < 2 ^ (7 * k)) : acc + (x % 128).toNat * 2 ^ (7 * k) < 2 ^ (7 * (k + 1)) := by
 have h1 : (x % 128).toNat ≤ 127 := by omega
 have h2 : (x % 128).toNat * 2 ^ (7 * k) ≤ 127 * 2 ^ (7 * k) := Nat.mul_le_mul_right _ h1
 rw [show 7 * (k + 1) = 7 * k + 7 by omega, Nat.pow_add]
 omega
def IsReader (w : World) (B : Nat) (v : Value) (bs : List Int) (e : Int) : Prop :=
 w.cell? ⟨B, 0, none⟩ = some v ∧ w.cell? ⟨B, 1, none⟩ = some (.int .i64 e) ∧ w.frozen? ⟨B, 0, none⟩ = false ∧ w.frozen? ⟨B, 1, none⟩ = false ∧ NumsLt B .u8 w v bs ∧ ∀ x ∈ bs, 0 ≤ x ∧ x ≤ 255
theorem reader_shift {w : World} {B b off c k c' : Nat} {bs : List Int} {e : Int} {v : Value} {a' : Option Addr} (h0 : w.cell? ⟨B, 0, none⟩ = some v) (h1 : w.cell? ⟨B, 1, none⟩ = some (.int .i64 e)) (h2 : w.frozen? ⟨B, 0, none⟩ = false) (h3 : w.frozen? ⟨B, 1, none⟩ = false)
   (hblk : b < B) (hcell : ∀ j, j < bs.length → w.cell? ⟨b, off + j, none⟩ = some (.int .u8 (bs.getD j 0))) (hbs : ∀ x ∈ bs, 0 ≤ x ∧ x ≤ 255) (hk : k ≤ bs.length) (hc1 : bs.length - k ≤ c') (hc2 : c' ≤ 9223372036854775807) (ha : bs.length - k = 0 ∨ a' = some ⟨b, off + k, none⟩) :
   IsReader (w.setCell ⟨B, 0, none⟩ (.slice a' (bs.length - k) c')) B (.slice a' (bs.length - k) c') (bs.drop k) e := by
 refine ⟨World.cell?_setCell_same _ _ _ h0, ?_, by rw [World.frozen?_setCell]; exact h2, by rw [World.frozen?_setCell]; exact h3, ?_, fun x hx => hbs x (List.mem_of_mem_drop hx)⟩
 · rw [World.cell?_setCell_other _ _ _ _ (by simp)]; exact h1
 have hl : (bs.drop k).length = bs.length - k := by simp
 refine NumsLt.below (w := w) ⟨a', c', by rw [hl], by omega, hc2, ?_⟩ ((Below.refl B w).setCell (p := ⟨B, 0, none⟩) (Nat.le_refl _) _)
 rcases ha with ha | ha
 · left; omega
 right
 refine ⟨b, off + k, ha, hblk, fun j hj => ?_⟩
 have := hcell (k + j) (by omega)
 rw [show off + k + j = off + (k + j) by omega, this]
 simp [List.getD]
def decPost (w : World) (B : Nat) (bs : List Int) (e : Int) : Dec → Ending → World → Prop
 | .ok n k, en, w' => en = .returned (.tuple #[.int .u64 n, .int .i64 0]) ∧ ∃ v', w' = w.setCell ⟨B, 0, none⟩ v' ∧ IsReader w' B v' (bs.drop k) e
 | .err er, en, w' => en = .returned (.tuple #[.int .u64 0, .int .i64 er]) ∧ w' = w
end Go.Proofs.YteglmahnkfgelaaGreat.K
end
section
namespace Go.Proofs.YteglmahnkfgelaaGreat.K
open Go.ChangeShapes Go.WideShapes Go.ChangeAt Go.RowKit
set_option linter.unusedVariables false
def Only (B : Nat) (w w' : World) : Prop := w.grownBy w' (some B)
theorem Only.refl (B : Nat) (w : World) : Only B w w := ⟨rfl, rfl, rfl, Nat.le_refl _, fun _ _ _ => rfl⟩
theorem Only.trans {B : Nat} {a b c : World} (h : Only B a b) (k : Only B b c) : Only B a c :=
 ⟨k.os.trans h.os, k.tape.trans h.tape, k.output.trans h.output, Nat.le_trans h.size k.size, fun i hi hne => (k.block i (Nat.lt_of_lt_of_le hi h.size) hne).trans (h.block i hi hne)⟩
theorem Only.set (B : Nat) (w : World) (o : Nat) (v : Value) : Only B w (w.setCell ⟨B, o, none⟩ v) :=
 ⟨rfl, rfl, rfl, by simp [World.setCell], fun k _ hne => Below.heap_setCell _ _ _ _ (fun e => hne (by rw [e]))⟩
theorem Only.ofBelow {B : Nat} {w w' : World} (h : Below w.heap.size w w') : Only B w w' := ⟨h.os, h.tape, h.output, h.size, fun k hk _ => h.block k hk⟩
theorem Only.below {B N : Nat} {w w' : World} (h : Only B w w') (hB : N ≤ B) (hN : N ≤ w.heap.size) : Below N w w' :=
 ⟨h.os, h.tape, h.output, h.size, fun k hk => h.block k (by omega) (fun e => by cases e; omega)⟩
theorem Only.drew (B : Nat) (w : World) : Only B w w.drew := ⟨rfl, rfl, rfl, Nat.le_refl _, fun _ _ _ => rfl⟩
theorem IsReader.lt {w : World} {B : Nat} {v : Value} {bs : List Int} {e : Int} (h : IsReader w B v bs e) : B < w.heap.size := World.block_lt_of_cell? w ⟨B, 0, none⟩ h.1
theorem IsReader.kept {w w' : World} {B B2 : Nat} {v : Value} {bs : List Int} {e : Int} (h : IsReader w B v bs e) (ho : Only B2 w w') (hB : B < B2) : IsReader w' B v bs e := by
 have hlt := h.lt
 obtain ⟨h0, h1, h2, h3, h4, h5⟩ := h
 have hb : w'.heap[B]? = w.heap[B]? := ho.block B hlt (fun e => by cases e; omega)
 exact ⟨by rw [World.cell?_of_block (w := w) hb]; exact h0, by rw [World.cell?_of_block (w := w) hb]; exact h1, by rw [World.frozen?_of_block (w := w) hb]; exact h2, by rw [World.frozen?_of_block (w := w) hb]; exact h3, h4.below (ho.below (by omega) (by omega)), h5⟩
theorem IsReader.later {w w' : World} {B : Nat} {v : Value} {bs : List Int} {e : Int} (h : IsReader w B v bs e) (hb : Below w.heap.size w w') : IsReader w' B v bs e := by
 have hlt := h.lt
 obtain ⟨h0, h1, h2, h3, h4, h5⟩ := h
 exact ⟨by rw [hb.cell (by exact hlt)]; exact h0, by rw [hb.cell (by exact hlt)]; exact h1, by rw [hb.frozen (by exact hlt)]; exact h2, by rw [hb.frozen (by exact hlt)]; exact h3, h4.below (hb.mono (by omega)), h5⟩
theorem dec_err : ∀ (bs : List Int) (acc i : Nat) (er : Int), dec acc i bs = .err er → er = 20 ∨ er = 21
 | [], acc, i, er, h => by rw [dec] at h; cases h; exact .inr rfl
 | b :: r, acc, i, er, h => by
   rw [dec] at h
   split at h
   · cases h; exact .inl rfl
   split at h
   · cases h
   exact dec_err r _ _ er h
def numR (bs : List Int) (e most : Int) : Int × List Int × Int :=
 if e = 0 then match dec 0 0 bs with
   | .err er => (0, [], er)
   | .ok n k => if most < n then (0, [], 22) else (n, bs.drop k, 0)
 else (0, bs, e)
end Go.Proofs.YteglmahnkfgelaaGreat.K
end
section
namespace Go.Proofs.YteglmahnkfgelaaGreat.K
open Go.ChangeShapes Go.WideShapes Go.ChangeAt Go.RowKit
set_option linter.unusedVariables false
def lumpR (bs : List Int) (e most : Int) : List Int × List Int × Int :=
 if (numR bs e (max most 0)).2.2 = 0 then
   if ((numR bs e (max most 0)).2.1.length : Int) < (numR bs e (max most 0)).1 then ([], [], 21)
   else ((numR bs e (max most 0)).2.1.take (numR bs e (max most 0)).1.toNat, (numR bs e (max most 0)).2.1.drop (numR bs e (max most 0)).1.toNat, 0)
 else ([], (numR bs e (max most 0)).2.1, (numR bs e (max most 0)).2.2)
theorem IsLists.lit (w : World) (us : List Value) (ls : List (List Int)) (N : Nat) (T : TypeId) (n c : Nat) (hN : N = w.heap.size) (hn : n = us.length) (hl : us.length = ls.length) (h : ∀ j, j < us.length → IsNums .u8 w (us.getD j default) (ls.getD j [])) :
   IsLists (w.alloc (.cells us.toArray T)) (.slice (some ⟨N, 0, none⟩) n c) ls := by
 subst hN; subst hn
 refine ⟨_, c, by rw [hl], .inr ⟨_, 0, rfl, by simp, fun j hj => ?_⟩⟩
 refine ⟨us.getD j default, ?_, (h j (by omega)).alloc _⟩
 unfold World.cell? World.alloc
 simp [List.getD, show j < us.length by omega]
theorem IsLists.one (w : World) (u : Value) (bs : List Int) (N : Nat) (T : TypeId) (hN : N = w.heap.size) (h : IsNums .u8 w u bs) : IsLists (w.alloc (.cells #[u] T)) (.slice (some ⟨N, 0, none⟩) 1 1) [bs] :=
 IsLists.lit w [u] [bs] N T 1 1 hN rfl rfl (fun j hj => by
   rcases j with _ | j
   · exact h
   simp at hj)
theorem NumsLt.ofOwn {k : IntKind} {w : World} {B : Nat} {e : TypeId} {v : Value} {n : Nat} {zs : List Int} (h : w.ownsRow B e 1 v n (zs.map (Value.int k))) : NumsLt w.heap.size k w v zs := by
 have hn : n = zs.length := by have := h.1; simpa using this.symm
 subst hn
 rcases h.2 with ⟨rfl, h0⟩ | ⟨g, cap, cur, rfl, hg, hb, h1, h2, h3, h4⟩
 · obtain rfl := List.length_eq_zero_iff.1 h0
   exact ⟨none, 0, rfl, Nat.le_refl _, by omega, .inl rfl⟩
 refine ⟨_, cap, rfl, h1, h2, .inr ⟨g, 0, rfl, (Array.getElem?_eq_some_iff.1 hb).1, fun j hj => ?_⟩⟩
 have := h.cellAt j (by omega)
 rw [Nat.zero_add, this]
 simp [hj, List.getD]
theorem NumsLt.take {N : Nat} {k : IntKind} {w : World} {a : Option Addr} {len c : Nat} {zs : List Int} (h : NumsLt N k w (.slice a len c) zs) (n : Nat) (hn : n ≤ zs.length) : NumsLt N k w (.slice a n c) (zs.take n) := by
 obtain ⟨a', c', e, h1, h2, h3⟩ := h
 injection e with e1 e2 e3
 subst e1; subst e3
 refine ⟨a, c, by simp [hn], by simp; omega, h2, ?_⟩
 rcases h3 with h3 | ⟨b, off, rfl, hb, hc⟩
 · left; simp; omega
 right
 refine ⟨b, off, rfl, hb, fun j hj => ?_⟩
 simp at hj
 rw [hc j (by omega)]
 simp only [List.getD, List.getElem?_take]
 rw [if_pos (by omega)]
theorem IsReader.set {w : World} {B : Nat} {a : Option Addr} {len c n : Nat} {bs : List Int} {e : Int} (h : IsReader w B (.slice a len c) bs e) (hn : n ≤ bs.length) (a' : Option Addr) (c' : Nat) (hc1 : bs.length - n ≤ c') (hc2 : c' ≤ 9223372036854775807)
   (ha : ∀ b off, a = some ⟨b, off, none⟩ → bs.length - n = 0 ∨ a' = some ⟨b, off + n, none⟩) : IsReader (w.setCell ⟨B, 0, none⟩ (.slice a' (bs.length - n) c')) B (.slice a' (bs.length - n) c') (bs.drop n) e := by
 obtain ⟨h0, h1, h2, h3, ⟨p, c0, ep, hc3, hc4, hcells⟩, h5⟩ := h
 injection ep with e1 e2 e3
 subst e1; subst e3
 rcases hcells with hz | ⟨b, off, rfl, hblk, hcell⟩
 · have hn0 : bs = [] := List.length_eq_zero_iff.1 hz
   subst hn0
   refine ⟨World.cell?_setCell_same _ _ _ h0, ?_, by rw [World.frozen?_setCell]; exact h2, by rw [World.frozen?_setCell]; exact h3, ⟨a', c', by simp, by simp, hc2, .inl (by simp)⟩, by simp⟩
   rw [World.cell?_setCell_other _ _ _ _ (by simp)]; exact h1
 exact reader_shift (c := c) h0 h1 h2 h3 hblk hcell h5 hn hc1 hc2 (ha b off rfl)
def LumpPost (w : World) (B : Nat) (r : List Int × List Int × Int) (en : Ending) (w' : World) : Prop :=
 ∃ u, en = .returned u ∧ w'.ownsRow w.heap.size 5 1 u r.1.length (r.1.map (Value.int .u8)) ∧ ∃ v', IsReader w' B v' r.2.1 r.2.2 ∧ Only B w w'
end Go.Proofs.YteglmahnkfgelaaGreat.K
end
section
namespace Go.Proofs.YteglmahnkfgelaaGreat.K
open Go.ChangeShapes Go.WideShapes Go.ChangeAt Go.RowKit
set_option linter.unusedVariables false
def Low (N : Nat) (w0 : World) : World → Prop := fun W => Below N w0 W
section
variable {P : Program} {ops : Array Oper} {Q : Exit → Act → World → Prop} {md : Region.Mode} {w0 : World} {N : Nat}
end
end Go.Proofs.YteglmahnkfgelaaGreat.K
end
section
namespace Go.Proofs.YteglmahnkfgelaaGreat.K
open Go.ChangeShapes Go.WideShapes Go.ChangeAt Go.RowKit
set_option linter.unusedVariables false
theorem enc_dec (rest : List Int) : ∀ (f n i acc : Nat), i + f = 9 → n * 2 ^ (7 * i) < 2 ^ 64 → (0 < i → n ≠ 0) → dec acc i (encF f n ++ rest) = .ok (acc + n * 2 ^ (7 * i)) (i + (encF f n).length)
 | 0, n, i, acc, hi, hb, hz => by
   obtain rfl : i = 9 := by omega
   have hn : n ≤ 1 := by omega
   have h0 := hz (by omega)
   obtain rfl : n = 1 := by omega
   simp [encF, dec]
 | f + 1, n, i, acc, hi, hb, hz => by
   unfold encF
   by_cases h : n < 128
   · rw [if_pos h]
     have hc : ¬ ((i = 9 ∧ (1 : Int) < (n : Int)) ∨ (0 < i ∧ (n : Int) = 0)) := by omega
     simp only [List.cons_append, List.nil_append, dec]
     rw [if_neg hc, if_pos (by omega)]
     rw [show ((n : Int) % 128).toNat = n by omega]
     simp
   rw [if_neg h]
   have hc : ¬ ((i = 9 ∧ (1 : Int) < ((n % 128 + 128 : Nat) : Int)) ∨ (0 < i ∧ ((n % 128 + 128 : Nat) : Int) = 0)) := by omega
   simp only [List.cons_append, dec]
   rw [if_neg hc, if_neg (by omega)]
   have hpow : (2 : Nat) ^ (7 * (i + 1)) = 128 * 2 ^ (7 * i) := by rw [show 7 * (i + 1) = 7 + 7 * i by omega, Nat.pow_add]
   have hdm : 128 * (n / 128) + n % 128 = n := Nat.div_add_mod n 128
   have hmul : n / 128 * 2 ^ (7 * (i + 1)) = 128 * (n / 128) * 2 ^ (7 * i) := by rw [hpow]; ac_rfl
   have hle : 128 * (n / 128) * 2 ^ (7 * i) ≤ n * 2 ^ (7 * i) := Nat.mul_le_mul_right _ (by omega)
   rw [enc_dec rest f (n / 128) (i + 1) _ (by omega) (by omega) (by omega)]
   rw [show (((n % 128 + 128 : Nat) : Int) % 128).toNat = n % 128 by omega, hmul]
   have hsum : n * 2 ^ (7 * i) = 128 * (n / 128) * 2 ^ (7 * i) + n % 128 * 2 ^ (7 * i) := by rw [← Nat.add_mul, hdm]
   rw [hsum]
   simp
   constructor <;> omega
theorem dec_enc (x : Int) (h0 : 0 ≤ x) (h1 : x ≤ 18446744073709551615) (rest : List Int) : dec 0 0 (enc x ++ rest) = .ok x.toNat (enc x).length := by
 have := enc_dec rest 9 x.toNat 0 0 (by omega) (by simp; omega) (by omega)
 simpa [enc] using this
theorem enc_bytes (x : Int) (h1 : x ≤ 18446744073709551615) : ∀ b ∈ enc x, 0 ≤ b ∧ b ≤ 255 := by
 have : ∀ (f n : Nat), n < 128 ^ (f + 1) → ∀ b ∈ encF f n, 0 ≤ b ∧ b ≤ 255 := by
   intro f
   induction f with
   | zero => intro n hn b hb; simp [encF] at hb hn; omega
   | succ f ih =>
     intro n hn b hb
     unfold encF at hb
     split at hb
     · simp at hb; omega
     rcases List.mem_cons.1 hb with rfl | hb
     · omega
     refine ih (n / 128) ?_ b hb
     rw [Nat.pow_succ] at hn
     exact Nat.div_lt_of_lt_mul (by rw [Nat.mul_comm]; exact hn)
 refine this 9 x.toNat ?_
 have : (128 : Nat) ^ 10 = 1180591620717411303424 := by decide
 omega
theorem numR_ok (x : Int) (h0 : 0 ≤ x) (h1 : x ≤ 18446744073709551615) (rest : List Int) (most : Int) (hm : x ≤ most) : numR (enc x ++ rest) 0 most = (x, rest, 0) := by
 unfold numR
 rw [if_pos rfl, dec_enc x h0 h1 rest]
 simp only []
 rw [if_neg (by omega)]
 simp; omega
theorem numR_bad (bs : List Int) (e most : Int) (h : e ≠ 0) : numR bs e most = (0, bs, e) := by rw [numR, if_neg h]
theorem IsNums.drew {k : IntKind} {w : World} {v : Value} {zs : List Int} (h : IsNums k w v zs) : IsNums k w.drew v zs := h.below (Below.refl w.heap.size w).drew (Nat.le_refl _)
theorem IsLists.nil (w : World) (a : Option Addr) (c : Nat) : IsLists w (.slice a 0 c) [] := ⟨a, c, rfl, .inl rfl⟩
theorem IsNums.after {k : IntKind} {w w' : World} {v : Value} {zs : List Int} {o : Obj} (h : IsNums k w v zs) (hb : Below (w.alloc o).heap.size (w.alloc o) w') : IsNums k w' v zs := (h.alloc o).below hb (Nat.le_refl _)
theorem str_beq {a b : List Int} (ha : ∀ x ∈ a, 0 ≤ x ∧ x ≤ 255) (hb : ∀ x ∈ b, 0 ≤ x ∧ x ≤ 255) : ((strOfNums a).toList == (strOfNums b).toList) = decide (a = b) := by
 rw [Bool.eq_iff_iff]
 simp only [beq_iff_eq, decide_eq_true_eq]
 constructor
 · intro h
   refine str_inj ha hb (bytes_inj ?_)
   rw [← ByteArray.toList_eq, ← ByteArray.toList_eq]
   exact h
 rintro rfl; rfl
set_option maxRecDepth 100000 in
theorem equal_any (w : World) (u v : Value) (xs ys : List Int) (hu : IsNums .u8 w u xs) (hv : IsNums .u8 w v ys) (hx : ∀ x ∈ xs, 0 ≤ x ∧ x ≤ 255) (hy : ∀ x ∈ ys, 0 ≤ x ∧ x ≤ 255) :
   Calls Tryz.prog 62 #[u, v] w fun e w' => e = .returned (.bool (decide (xs = ys))) ∧ w' = w := by
 obtain ⟨p1, c1, rfl, -⟩ := id hu
 obtain ⟨p2, c2, rfl, -⟩ := id hv
 have h1 := conv_str (P := Tryz.prog) hu 22 5 Tryz.underlying22 Tryz.underlying5 9 Tryz.underlying9
 have h2 := conv_str (P := Tryz.prog) hv 22 5 Tryz.underlying22 Tryz.underlying5 9 Tryz.underlying9
 have HD := Lib.hid (str_beq hx hy)
 clear hu hv hx hy
 go_enter Tryz.func62, Tryz.ntmps62
 go_wp2
 go_ret
 exact ⟨ret_bool HD.out, rfl⟩
end Go.Proofs.YteglmahnkfgelaaGreat.K
end
section
namespace Go.Proofs.YteglmahnkfgelaaGreat.K
open Go.ChangeShapes Go.WideShapes Go.ChangeAt Go.RowKit
set_option linter.unusedVariables false
section
variable {P : Program} {a : Act} {w : World} {K : Act → World → Prop} {Q : Exit → Act → World → Prop}
end
theorem NumsOff.ofOwn {bad : Nat → Prop} {w : World} {base : Nat} {e : TypeId} {v : Value} {n : Nat} {zs : List Int} (h : w.ownsRow base e 1 v n (zs.map (Value.int .u8))) (hb : ∀ k, base ≤ k → k < w.heap.size → ¬ bad k) : NumsOff bad w v zs := by
 have hn : n = zs.length := by have := h.1; simpa using this.symm
 subst hn
 rcases h.2 with ⟨rfl, h0⟩ | ⟨g, cap, cur, rfl, hg, hbk, h1, h2, h3, h4⟩
 · obtain rfl := List.length_eq_zero_iff.1 h0; exact NumsOff.nil _ _ none 0
 have hlt := (Array.getElem?_eq_some_iff.1 hbk).1
 refine ⟨_, cap, rfl, .inr ⟨g, 0, rfl, hlt, hb g hg hlt, fun j hj => ?_⟩⟩
 have := h.cellAt j (by omega)
 rw [Nat.zero_add, this]
 simp [hj, List.getD]
end Go.Proofs.YteglmahnkfgelaaGreat.K
end
section
namespace Go.Proofs.YteglmahnkfgelaaGreat.K
open Go.ChangeShapes Go.WideShapes Go.ChangeAt Go.RowKit
set_option linter.unusedVariables false
section
variable {P : Program} {ops : Array Oper} {rest : List Oper} {a : Act} {w : World} {Q : Exit → Act → World → Prop}
end
theorem Only.keep {B : Nat} {a b : World} (h : Only B a b) : Keep (fun k => k = B) a b := ⟨h.os, h.tape, h.output, h.size, fun i hi hn => h.block i hi (fun e => hn (show i = B from (by injection e)))⟩
theorem numR_le (bs : List Int) (e most : Int) (m0 : 0 ≤ most) : 0 ≤ (numR bs e most).1 ∧ (numR bs e most).1 ≤ most := by
 unfold numR
 split
 · cases dec 0 0 bs with
   | err er => exact ⟨Int.le_refl _, m0⟩
   | ok n k =>
     show 0 ≤ (if most < (n : Int) then ((0 : Int), ([] : List Int), (22 : Int)) else ((n : Int), bs.drop k, 0)).1 ∧ (if most < (n : Int) then ((0 : Int), ([] : List Int), (22 : Int)) else ((n : Int), bs.drop k, 0)).1 ≤ most
     split
     · exact ⟨Int.le_refl _, m0⟩
     show 0 ≤ (n : Int) ∧ (n : Int) ≤ most
     omega
 exact ⟨Int.le_refl _, m0⟩
theorem numR_len (bs : List Int) (e most : Int) : (numR bs e most).2.1.length ≤ bs.length := by
 unfold numR
 split
 · cases dec 0 0 bs with
   | err er => exact Nat.zero_le _
   | ok n k =>
     show (if most < (n : Int) then ((0 : Int), ([] : List Int), (22 : Int)) else ((n : Int), bs.drop k, 0)).2.1.length ≤ _
     split
     · exact Nat.zero_le _
     show (bs.drop k).length ≤ _
     rw [List.length_drop]; omega
 exact Nat.le_refl _
theorem numR_sub (bs : List Int) (e most : Int) : ∀ x ∈ (numR bs e most).2.1, x ∈ bs := by
 unfold numR
 split
 · cases dec 0 0 bs with
   | err er => intro x hx; cases hx
   | ok n k =>
     show ∀ x ∈ (if most < (n : Int) then ((0 : Int), ([] : List Int), (22 : Int)) else ((n : Int), bs.drop k, 0)).2.1, _
     split
     · intro x hx; cases hx
     intro x hx; exact List.mem_of_mem_drop hx
 intro x hx; exact hx
end Go.Proofs.YteglmahnkfgelaaGreat.K
end
section
namespace Go.Proofs.YteglmahnkfgelaaGreat.K
open Go.ChangeShapes Go.WideShapes Go.ChangeAt Go.RowKit
set_option linter.unusedVariables false
set_option linter.unusedSimpArgs false
theorem numR_err {bs : List Int} {er : Int} (most : Int) (h : dec 0 0 bs = .err er) : numR bs 0 most = (0, [], er) := by rw [numR, if_pos rfl, h]
theorem numR_val {bs : List Int} {n k : Nat} (most : Int) (h : dec 0 0 bs = .ok n k) : numR bs 0 most = if most < (n : Int) then (0, [], 22) else ((n : Int), bs.drop k, 0) := by rw [numR, if_pos rfl, h]
end Go.Proofs.YteglmahnkfgelaaGreat.K
end
section
namespace Go.Proofs.YteglmahnkfgelaaGreat.K
open Go.ChangeShapes Go.WideShapes Go.ChangeAt Go.RowKit
set_option linter.unusedVariables false
set_option linter.unusedSimpArgs false
theorem encs_one (x : Int) : encs [x] = enc x := by simp [encs]
theorem encs_cons (x : Int) (l : List Int) : encs (x :: l) = enc x ++ encs l := by simp [encs]
theorem one63 {x : Int} (h : 0 ≤ x ∧ x ≤ 9223372036854775807) : ∀ k, k < [x].length → 0 ≤ [x].getD k 0 ∧ [x].getD k 0 ≤ 9223372036854775807 := fun k hk => by
 obtain rfl : k = 0 := by simpa using hk
 simpa using h
def itemE (e : Int × List Int) : List Int := enc e.1 ++ (enc e.2.length ++ e.2)
def itemsE (es : List (Int × List Int)) : List Int := es.flatMap itemE
set_option maxRecDepth 100000
set_option maxHeartbeats 4000000
end Go.Proofs.YteglmahnkfgelaaGreat.K
end
section
namespace Go.Proofs.YteglmahnkfgelaaGreat.K
open Go.ChangeShapes Go.WideShapes Go.ChangeAt Go.RowKit
set_option linter.unusedVariables false
set_option linter.unusedSimpArgs false
theorem shx {k : Nat} (hk : k ≤ 9) : min (7 * (k : Int)).toNat IntKind.u64.bits = 7 * k := by
 have : IntKind.u64.bits = 64 := rfl
 omega
theorem getD_bd {b : List Int} {k : Nat} (h : BytesL b) (hk : k < b.length) : 0 ≤ b.getD k 0 ∧ b.getD k 0 ≤ 255 := by
 rw [List.getD, List.getElem?_eq_getElem hk]; exact h _ (List.getElem_mem hk)
theorem dec_at {b : List Int} {u k : Nat} (hk : k < b.length) : dec u k (b.drop k) = if (k = 9 ∧ 1 < b.getD k 0) ∨ (0 < k ∧ b.getD k 0 = 0) then .err 20 else if b.getD k 0 < 128 then .ok (u + (b.getD k 0 % 128).toNat * 2 ^ (7 * k)) (k + 1) else dec (u + (b.getD k 0 % 128).toNat * 2 ^ (7 * k)) (k + 1) (b.drop (k + 1)) := by
 rw [List.drop_eq_getElem_cons hk, dec, List.getD, List.getElem?_eq_getElem hk]; rfl
set_option maxRecDepth 100000
set_option maxHeartbeats 4000000
end Go.Proofs.YteglmahnkfgelaaGreat.K
end
section
namespace Go.Proofs.YteglmahnkfgelaaGreat.K
open Go.ChangeShapes Go.WideShapes Go.ChangeAt Go.RowKit
set_option linter.unusedVariables false
set_option linter.unusedSimpArgs false
theorem lists_rd {S : Nat → Prop} {w : World} {v : Value} {ls : List (List Int)} (h : Rd S w v (.l 1 (ls.map bD))) : IsLists w v ls := by
 rcases h.l_out with h0 | ⟨b, off, c, f, rfl, h1, h2, h3, h4, h5⟩
 · have e : ls = [] := List.map_eq_nil_iff.1 h0
   subst e
   obtain ⟨p, c, rfl, -⟩ := h.l_shape
   exact ⟨p, c, rfl, .inl rfl⟩
 refine ⟨_, c, by rw [List.length_map], .inr ⟨b, off, rfl, h2, fun j hj => ?_⟩⟩
 have hj' : j < (ls.map bD).length := by rw [List.length_map]; exact hj
 have h6 := (h4 j 0 hj' (by decide)).1
 refine ⟨_, by rw [show off + j = off + j * 1 + 0 by omega]; exact h6, ?_⟩
 have h7 := h5 j 0 (bD (ls.getD j [])) (.ns .u8 (ls.getD j [])) (by rw [List.getElem?_map, List.getD, List.getElem?_eq_getElem hj]; rfl) rfl
 exact h7.ns_out.nums
theorem pput_x (v : Value) (xs : List Int) (w0 : World) (h : Rd (fun _ => True) w0 v (.ns .u64 xs)) (hl : xs.length ≤ 1000) (hxb : ∀ k, k < xs.length → 0 ≤ xs.getD k 0 ∧ xs.getD k 0 ≤ 9223372036854775807) :
   Calls Tryz.prog 87 #[v] w0 fun e w' => ∃ p c, e = .returned (.slice p (encs xs).length c) ∧ w'.ownsRow w0.heap.size 5 1 (.slice p (encs xs).length c) (encs xs).length ((encs xs).map (Value.int .u8)) ∧ Below w0.heap.size w0 w' := by
 refine (put_any v xs w0 h.ns_out.nums (fun j hj => ⟨(hxb j hj).1, by have := (hxb j hj).2; omega⟩) hl).mono fun e w' h => ?_
 obtain ⟨u, rfl, hown, hbel⟩ := h
 obtain ⟨p, c, rfl⟩ := ownsRow_shape hown
 exact ⟨p, c, rfl, hown, hbel⟩
theorem pjoin_x (v : Value) (ls : List (List Int)) (w0 : World) (h : Rd (fun _ => True) w0 v (.l 1 (ls.map bD))) (hl : ls.length ≤ 1000) (hs : sumLen ls ≤ 1000000) :
   Calls Tryz.prog 38 #[v] w0 fun e w' => ∃ p c, e = .returned (.slice p (ls.flatten).length c) ∧ w'.ownsRow w0.heap.size 5 1 (.slice p (ls.flatten).length c) (ls.flatten).length ((ls.flatten).map (Value.int .u8)) ∧ Below w0.heap.size w0 w' := by
 refine (join_any v ls w0 (lists_rd h) hl hs).mono fun e w' h => ?_
 obtain ⟨u, rfl, hown, hbel⟩ := h
 obtain ⟨p, c, rfl⟩ := ownsRow_shape hown
 exact ⟨p, c, rfl, hown, hbel⟩
end Go.Proofs.YteglmahnkfgelaaGreat.K
end
section
namespace Go.Proofs.YteglmahnkfgelaaGreat.K
open Go.ChangeShapes Go.WideShapes Go.ChangeAt Go.RowKit
set_option linter.unusedVariables false
set_option linter.unusedSimpArgs false
set_option maxRecDepth 100000
set_option maxHeartbeats 4000000
theorem pnums_x (xs : List Int) (q : Option Addr) (cq : Nat) (w0 : World) (h0 : Rd (fun _ => True) w0 (.slice q xs.length cq) (.ns .i64 xs)) (hl : xs.length ≤ 1000000) (hxb : ∀ k, k < xs.length → 0 ≤ xs.getD k 0 ∧ xs.getD k 0 ≤ 9223372036854775807) :
   Calls Tryz.prog 39 #[.slice q xs.length cq] w0 fun e w' => ∃ (p : Option Addr) (c : Nat), e = .returned (.slice p (encs xs).length c) ∧ w'.ownsRow w0.heap.size 5 1 (.slice p (encs xs).length c) (encs xs).length ((encs xs).map (Value.int .u8)) ∧ Below w0.heap.size w0 w' := by
 refine ent1 Tryz.func39 rfl Tryz.ntmps39 fun Az Hz => ?_
 have m0 := MemOk.start (fun _ => False) w0
 refine regS Hz (.assign rfl .nil) fun Az Hz => ?_
 refine regS Hz (.assign rfl .nil) fun Az Hz => ?_
 refine wsk fun K0 hK0 => ?_
 refine regS Hz (.move rfl <| .len rfl U31 <| .move rfl .nil) fun Az Hz => ?_
 refine wp_block ?_
 refine wp_loop_ghost (fun g a w => ∃ (k : Nat) (b : List Int) (p : Option Addr) (c : Nat), k ≤ xs.length ∧ g = xs.length - k ∧ b = encs (xs.take k) ∧ Has 20 [(3, .slice p b.length c), (6, .slice q xs.length cq), (7, .int .i64 xs.length), (8, .int .i64 k)] a ∧ MemOk (cn w0) w0 [(9, .num (.slice p b.length c) 5 .u8 b)] w) (xs.length) ?_ ?_
 · have mz := m0.nilN 9 5 .u8
   exact ⟨0, [], _, _, Nat.zero_le _, rfl, rfl, Hz.only [3, 6, 7, 8], mz.only [9]⟩
 clear Hz m0
 rintro g Az w6 ⟨k, b, p, c, hkl, hg, hbe, Hz, m6⟩
 refine regS Hz (.lss rfl rfl .nil) fun Az Hz => ?_
 refine wsk fun K1 hK1 => ?_
 refine bc Hz 9 ?_ ?_
 ·
  intro hb8 Hz; try simp only [QQ, Qax] at hb8
  have hk : k < xs.length := by have := hb8; first | omega | (simp at this; omega)
  have hxk := hxb k hk
  refine wct Hz ?_
  refine zss (hK1 _ _ ?_)
  refine wsk fun K2 hK2 => ?_
  refine wp_block ?_
  refine zsr fun K3 hK3 => ?_
  obtain ⟨gx10, ox10, hp10, hl10, hrg10⟩ := h0.extN (k) hk
  revert Hz
  cases hp10
  intro Hz
  refine gz hK3 Hz (.c rfl (fun _ h_ => y_idx h_ rfl rfl U31 fct30 (k) rfl hk) <| .loadAt1 (hrg10 m6 rfl) (q := 0) rfl rfl rfl U3 rfl <| .assign rfl <| .nil) fun Az Hz => ?_
  refine wp_region_lit ?_
  refine goCh Hz (.move rfl <| .move rfl <| .conv rfl U3 U101 (r := xs.getD k 0) (IntWalk.u64_in _ (by omega)) .nil) fun Az Hz => ?_
  refine plz (e_litN Hz m6 100 (k := .u64) rfl rfl U163 fct35 rfl rfl rfl rfl fun g17 Az w18 Hz m18 => ?_)
  have m19 := m18.freezeN 100 rfl
  refine plz (ecn Hz Tryz.func87 rfl m19 101 (pput_x _ [xs.getD k 0] _ ((m19.rd (i := 100) rfl).any) (by simp) (one63 (by omega))) fun p20 c20 Az w20 Hz m21 => ?_)
  refine plz (e_appN Hz m21 9 rfl rfl rfl (m21.numsO (i := 101) rfl) U22 fct13 (by decide) (by rw [hbe]; have h8 := encs_len (xs.take k); rw [List.length_take] at h8; have h9 := encs_len [xs.getD k 0]; rw [List.length_singleton] at h9; omega) rfl fun p23 c23 Az w24 Hz m24 => ?_)
  refine gz hK2 Hz (.assign rfl .nil) fun Az Hz => ?_
  replace Hz := Hz.oz [3, 6, 7, 8]
  refine wp_region_lit ?_
  refine goCh Hz (.inc (k + 1) <| .move rfl .nil) fun Az Hz => ?_
  refine wpList_nil ?_
  show ∃ n', n' < _ ∧ _
  exact ⟨xs.length - (k + 1), by omega, k + 1, _, _, _, by omega, rfl, by rw [encs_snoc _ _ hk, ← hbe, encs_one], Hz.only [3, 6, 7, 8], m24.only [9]⟩
 intro hb8 Hz; try simp only [QQ, Qax] at hb8
 revert Hz
 obtain rfl : k = xs.length := by have := hb8; first | omega | (simp at this; omega)
 intro Hz
 refine wcf Hz ?_
 refine wp_exit ?_
 refine hK0 _ _ ?_
 refine regS Hz (.move rfl <| .assign rfl .nil) fun Az Hz => ?_
 refine rt1 Hz ?_
 rw [List.take_length] at hbe
 revert Hz
 subst hbe
 intro Hz
 exact ⟨_, _, rfl, m6.ok 9 _ rfl, m6.below⟩
theorem pnuml_x (xs : List Int) (q : Option Addr) (cq : Nat) (w0 : World) (h0 : Rd (fun _ => True) w0 (.slice q xs.length cq) (.ns .i64 xs)) (hl : xs.length ≤ 1000000) (hxb : ∀ k, k < xs.length → 0 ≤ xs.getD k 0 ∧ xs.getD k 0 ≤ 9223372036854775807) :
   Calls Tryz.prog 40 #[.slice q xs.length cq] w0 fun e w' => ∃ (p : Option Addr) (c : Nat), e = .returned (.slice p (encs xs).length c) ∧ w'.ownsRow w0.heap.size 5 1 (.slice p (encs xs).length c) (encs xs).length ((encs xs).map (Value.int .u8)) ∧ Below w0.heap.size w0 w' := by
 refine ent1 Tryz.func40 rfl Tryz.ntmps40 fun Az Hz => ?_
 have m0 := MemOk.start (fun _ => False) w0
 refine regS Hz (.assign rfl .nil) fun Az Hz => ?_
 refine regS Hz (.assign rfl .nil) fun Az Hz => ?_
 refine wsk fun K0 hK0 => ?_
 refine regS Hz (.move rfl <| .len rfl U32 <| .move rfl .nil) fun Az Hz => ?_
 refine wp_block ?_
 refine wp_loop_ghost (fun g a w => ∃ (k : Nat) (b : List Int) (p : Option Addr) (c : Nat), k ≤ xs.length ∧ g = xs.length - k ∧ b = encs (xs.take k) ∧ Has 20 [(3, .slice p b.length c), (6, .slice q xs.length cq), (7, .int .i64 xs.length), (8, .int .i64 k)] a ∧ MemOk (cn w0) w0 [(9, .num (.slice p b.length c) 5 .u8 b)] w) (xs.length) ?_ ?_
 · have mz := m0.nilN 9 5 .u8
   exact ⟨0, [], _, _, Nat.zero_le _, rfl, rfl, Hz.only [3, 6, 7, 8], mz.only [9]⟩
 clear Hz m0
 rintro g Az w6 ⟨k, b, p, c, hkl, hg, hbe, Hz, m6⟩
 refine regS Hz (.lss rfl rfl .nil) fun Az Hz => ?_
 refine wsk fun K1 hK1 => ?_
 refine bc Hz 9 ?_ ?_
 ·
  intro hb8 Hz; try simp only [QQ, Qax] at hb8
  have hk : k < xs.length := by have := hb8; first | omega | (simp at this; omega)
  have hxk := hxb k hk
  refine wct Hz ?_
  refine zss (hK1 _ _ ?_)
  refine wsk fun K2 hK2 => ?_
  refine wp_block ?_
  refine zsr fun K3 hK3 => ?_
  obtain ⟨gx10, ox10, hp10, hl10, hrg10⟩ := h0.extN (k) hk
  revert Hz
  cases hp10
  intro Hz
  refine gz hK3 Hz (.c rfl (fun _ h_ => y_idx h_ rfl rfl U32 fct22 (k) rfl hk) <| .loadAt1 (hrg10 m6 rfl) (q := 0) rfl rfl rfl U2 rfl <| .assign rfl <| .nil) fun Az Hz => ?_
  refine wp_region_lit ?_
  refine goCh Hz (.move rfl <| .move rfl <| .conv rfl U2 U101 (r := xs.getD k 0) (IntWalk.u64_in _ (by omega)) .nil) fun Az Hz => ?_
  refine plz (e_litN Hz m6 100 (k := .u64) rfl rfl U163 fct35 rfl rfl rfl rfl fun g17 Az w18 Hz m18 => ?_)
  have m19 := m18.freezeN 100 rfl
  refine plz (ecn Hz Tryz.func87 rfl m19 101 (pput_x _ [xs.getD k 0] _ ((m19.rd (i := 100) rfl).any) (by simp) (one63 (by omega))) fun p20 c20 Az w20 Hz m21 => ?_)
  refine plz (e_appN Hz m21 9 rfl rfl rfl (m21.numsO (i := 101) rfl) U22 fct13 (by decide) (by rw [hbe]; have h8 := encs_len (xs.take k); rw [List.length_take] at h8; have h9 := encs_len [xs.getD k 0]; rw [List.length_singleton] at h9; omega) rfl fun p23 c23 Az w24 Hz m24 => ?_)
  refine gz hK2 Hz (.assign rfl .nil) fun Az Hz => ?_
  replace Hz := Hz.oz [3, 6, 7, 8]
  refine wp_region_lit ?_
  refine goCh Hz (.inc (k + 1) <| .move rfl .nil) fun Az Hz => ?_
  refine wpList_nil ?_
  show ∃ n', n' < _ ∧ _
  exact ⟨xs.length - (k + 1), by omega, k + 1, _, _, _, by omega, rfl, by rw [encs_snoc _ _ hk, ← hbe, encs_one], Hz.only [3, 6, 7, 8], m24.only [9]⟩
 intro hb8 Hz; try simp only [QQ, Qax] at hb8
 revert Hz
 obtain rfl : k = xs.length := by have := hb8; first | omega | (simp at this; omega)
 intro Hz
 refine wcf Hz ?_
 refine wp_exit ?_
 refine hK0 _ _ ?_
 refine regS Hz (.move rfl <| .assign rfl .nil) fun Az Hz => ?_
 refine rt1 Hz ?_
 rw [List.take_length] at hbe
 revert Hz
 subst hbe
 intro Hz
 exact ⟨_, _, rfl, m6.ok 9 _ rfl, m6.below⟩
end Go.Proofs.YteglmahnkfgelaaGreat.K
end
section
namespace Go.Proofs.YteglmahnkfgelaaGreat.K
open Go.ChangeShapes Go.WideShapes Go.ChangeAt Go.RowKit
set_option linter.unusedVariables false
set_option linter.unusedSimpArgs false
section
variable {P : Program} {ops : Array Oper} {Q : Exit → Act → World → Prop} {md : Region.Mode} {listed : Array Bool} {fuel e : Nat} {S : World → Prop} {a : Act} {w : World}
end
end Go.Proofs.YteglmahnkfgelaaGreat.K
end
section
namespace Go.Proofs.YteglmahnkfgelaaGreat.K
open Go.ChangeShapes Go.WideShapes Go.ChangeAt Go.RowKit
set_option linter.unusedVariables false
set_option linter.unusedSimpArgs false
theorem numR_suf (x : List Int) (e most : Int) : ∃ k, k ≤ x.length ∧ (numR x e most).2.1 = x.drop k := by
 unfold numR
 split
 · split
   · exact ⟨x.length, Nat.le_refl _, (List.drop_length).symm⟩
   split
   · exact ⟨x.length, Nat.le_refl _, (List.drop_length).symm⟩
   rename_i n k _ _
   by_cases hk : k ≤ x.length
   · exact ⟨k, hk, rfl⟩
   exact ⟨x.length, Nat.le_refl _, by rw [List.drop_length, List.drop_of_length_le (by omega)]⟩
 exact ⟨0, Nat.zero_le _, rfl⟩
theorem run_conv_own {P : Program} (w : World) (t e e' : TypeId) (g : Nat) (C : Array Value) (fr : Nat × Nat) (n c : Nat) (hb : w.heap[g]? = some (.cells C e' fr)) (ht : P.underlying t = some (.slice e)) (he : P.underlying e = some (.int .u8)) :
   (convert t t (.slice (some ⟨g, 0, none⟩) n c)).run P w = .ok (.slice (some ⟨g, 0, none⟩) n c) (w.freeze ⟨g, C.size, none⟩ 1) := by
 have hsh : w.shape? g = some (e', C.size) := by unfold World.shape?; rw [hb]
 simp [convert, run_underlying ht, run_underlying he, markStringish, hsh]
theorem freeze_block (w : World) (g k b : Nat) (hb : b ≠ g) : (w.freeze ⟨g, k, none⟩ 1).heap[b]? = w.heap[b]? := by
 unfold World.freeze
 rw [if_neg (by decide)]
 show (w.heap.modify g _)[b]? = _
 rw [Array.getElem?_modify, if_neg (fun h => hb h.symm)]
theorem freeze_size (w : World) (g k : Nat) : (w.freeze ⟨g, k, none⟩ 1).heap.size = w.heap.size := by
 unfold World.freeze
 rw [if_neg (by decide)]
 show (w.heap.modify g _).size = _
 rw [Array.size_modify]
theorem freeze_cell (w : World) (g k j : Nat) (C : Array Value) (e : TypeId) (fr : Nat × Nat) (hb : w.heap[g]? = some (.cells C e fr)) : (w.freeze ⟨g, k, none⟩ 1).cell? ⟨g, j, none⟩ = w.cell? ⟨g, j, none⟩ := by
 have h : ∃ fr', (w.freeze ⟨g, k, none⟩ 1).heap[g]? = some (.cells C e fr') := by
   unfold World.freeze
   rw [if_neg (by decide)]
   obtain ⟨lo, hi⟩ := fr
   refine ⟨(if lo == hi then (k, k + 1) else (min lo k, max hi (k + 1))), ?_⟩
   show (w.heap.modify g _)[g]? = _
   rw [Array.getElem?_modify, if_pos rfl, hb]
   rfl
 obtain ⟨fr', h⟩ := h
 unfold World.cell?
 simp [h, hb]
theorem freeze_keep (w : World) (g k : Nat) : Keep (fun b => b = g) w (w.freeze ⟨g, k, none⟩ 1) := by
 refine ⟨?_, ?_, ?_, Nat.le_of_eq (freeze_size w g k).symm, fun b hb hn => freeze_block w g k b hn⟩ <;> (unfold World.freeze; rw [if_neg (by decide)])
theorem e_cvN {P : Program} {X : Cx} {M : Mm} {T : List (Nat × Value)} {n : Nat} {a : Act} {w w0 : World} {K : Act → World → Prop} {Q : Exit → Act → World → Prop} {tt : TypeId} {pos : String} {af : Array Edge} {gd : Option (Nat × Bool)} (ha : Has n T a) (m : MemOk X w0 M w) (i : Nat) {d : Tmp} {t e e' : TypeId} {x : Operand} {g l c : Nat} {zs : List Int} (hm : lk M i = some (.num (.slice (some ⟨g, 0, none⟩) l c) e' .u8 zs)) (hp : evT T x = some (.slice (some ⟨g, 0, none⟩) l c)) (hu : P.underlying t = some (.slice e)) (he : P.underlying e = some (.int .u8)) (ht : Nat.blt d n = true)
   (h : ∀ a' w', Has n ((d, .slice (some ⟨g, 0, none⟩) l c) :: T) a' → MemOk X w0 ((i, .dat (.slice (some ⟨g, 0, none⟩) l c) (.ns .u8 zs)) :: M) w' → K a' w') : Oper.wp P ⟨some d, .convert t t x, tt, pos, af, gd⟩ a w K Q := by
 have how := m.ok i _ hm
 have hev := ha.ev hp
 rcases how.2 with ⟨hv, h0⟩ | ⟨g', cap, cur, hv, hg, hbk, h1, h2, h3, h4⟩
 · injection hv with hv _ _; cases hv
 injection hv with hv1 hv2 hv3
 injection hv1 with hv1; injection hv1 with hv1 _ _
 subst hv1; subst hv2; subst hv3
 have hc := run_conv_own (P := P) w t e _ g _ _ zs.length c hbk hu he
 have hrun : (execOp a.eval ⟨some d, .convert t t x, tt, pos, af, gd⟩).run P w = .ok (.value (.slice (some ⟨g, 0, none⟩) zs.length c)) (w.freeze ⟨g, cur.size, none⟩ 1) := by
   simp only [execOp, hev, Sem.run_bind, hc, Result.andThen_ok, Sem.run_pure]
 show Oper.upon P _ a K Q _
 rw [hrun]
 have hlt := (Array.getElem?_eq_some_iff.1 hbk).1
 refine h _ _ (ha.put ht _) (m.upd i _ ((freeze_keep w g _).mono (fun b hb => ⟨_, hm, by rw [hb]; rfl⟩)) (fun b hb => by cases hb) (fun _ hf => .ns ⟨_, c, rfl, ⟨h1, h2⟩, .inr ⟨g, 0, rfl, hf g ⟨_, hm, rfl⟩ hg (fun c hc => by cases hc), by rw [freeze_size]; exact hlt, fun j hj => ?_⟩⟩))
 rw [freeze_cell w g _ _ _ _ _ hbk]
 have := how.cellAt j (by omega)
 rw [Nat.zero_add, this]
 simp [hj, List.getD]
abbrev cxt (w : World) : Cx := cx (fun _ => True) w
theorem MemOk.own_new {w0 w : World} {M : Mm} (m : MemOk (cxt w0) w0 M w) {b : Nat} (h : Own M b) : w0.heap.size ≤ b := by
 obtain ⟨i, r, hl, hb⟩ := h
 have hok := m.ok i r hl
 have hn : ¬ b ∈ (cxt w0).bad := List.not_mem_nil
 cases r with
 | dat v d => cases hb
 | box g e cs => injection hb with hb; subst hb; exact hok.2.resolve_right hn
 | num v e k zs => exact (World.ownsRow.lt hok b hb).1
 | row v e k rows => obtain ⟨cs, q, _⟩ := hok; exact (World.ownsRow.lt q b hb).1
 | cel b o vs => cases hb
 | rowC v e k rows cs => exact (World.ownsRow.lt hok.1 b hb).1
 | seg v e k rows => exact (hok.2 b hb).resolve_right hn
 | any g => injection hb with hb; subst hb; exact hok.2.resolve_right hn
 | gone => cases hb
theorem MemOk.old {w0 w : World} {M : Mm} (m : MemOk (cxt w0) w0 M w) {S : Nat → Prop} {v : Value} {d : D} (h : Rd S w0 v d) : Rd (Free (cxt w0) M) w v d :=
 h.mono m.keep.2.2.2.1 (fun b hlt _ => ⟨m.keep.2.2.2.2 b hlt (by simp [cx]), fun _ => trivial, fun ho => by have := m.own_new ho; omega⟩)
theorem pjoin_is {v : Value} {ls : List (List Int)} {w0 : World} {S : List Int} (h : Rd (fun _ => True) w0 v (.l 1 (ls.map bD))) (hl : ls.length ≤ 1000) (hs : sumLen ls ≤ 1000000) (hS : ls.flatten = S) :
   Calls Tryz.prog 38 #[v] w0 fun e w' => ∃ p c, e = .returned (.slice p S.length c) ∧ w'.ownsRow w0.heap.size 5 1 (.slice p S.length c) S.length (S.map (Value.int .u8)) ∧ Below w0.heap.size w0 w' := by
 subst hS; exact pjoin_x v ls w0 h hl hs
theorem b63 {l : List Int} (h : ∀ x ∈ l, 0 ≤ x ∧ x ≤ 9223372036854775807) : ∀ k, k < l.length → 0 ≤ l.getD k 0 ∧ l.getD k 0 ≤ 9223372036854775807 := fun k hk => by
 rw [List.getD, List.getElem?_eq_getElem hk]; exact h _ (List.getElem_mem hk)
theorem bytesApp {a b : List Int} (ha : BytesL a) (hb : BytesL b) : BytesL (a ++ b) := fun x hx => (List.mem_append.1 hx).elim (ha x) (hb x)
theorem encBytes {x : Int} (h : x ≤ 18446744073709551615) : BytesL (enc x) := enc_bytes x h
theorem encsBytes {l : List Int} (h : ∀ x ∈ l, x ≤ 18446744073709551615) : BytesL (encs l) := fun x hx => by
 obtain ⟨y, hy, hxy⟩ := List.mem_flatMap.1 hx
 exact enc_bytes y (h y hy) x hxy
end Go.Proofs.YteglmahnkfgelaaGreat.K
end
section
namespace Go.Proofs.YteglmahnkfgelaaGreat.K
open Go.ChangeShapes Go.WideShapes Go.ChangeAt Go.RowKit
set_option linter.unusedVariables false
set_option linter.unusedSimpArgs false
theorem y_andNot {P : Program} {T : List (Nat × Value)} {n : Nat} {a : Act} {w : World} {k : IntKind} {p q r : Int} {d : Option Tmp} {x y : Operand} {t t2 tt : TypeId} {pos : String} {af : Array Edge} {gd : Option (Nat × Bool)} (h : Has n T a) (hx : evT T x = some (.int k p)) (hy : evT T y = some (.int k q)) (hr : bits .andNot k p q = r) : Yl P a w ⟨d, .binOp .andNot t x y t2, tt, pos, af, gd⟩ (.int k r) := by
 subst hr
 show (execOp _ _).run P w = _; simp only [execOp, eqGuard, binOp, Op.intBits, h.ev hx, h.ev hy, bits]; simp
end Go.Proofs.YteglmahnkfgelaaGreat.K
end
