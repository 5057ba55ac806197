/- General laws of walks. -/
import Derived.Test.YtkehgingagggaaaGreatG13
import Derived.Test.YtkehgingagggaaaGreatG14
import Derived.Test.YtkehgingagggaaaGreatG1
import Derived.Laws.Bits64
namespace Go.Proofs.YtkehgingagggaaaGreat.K
open Go.ChangeShapes Go.WideShapes Go.ChangeAt Go.RowKit
set_option linter.unusedVariables false
set_option linter.unusedSimpArgs false
section
theorem fl51mV : flatS Tryz.prog 51 [.int .i64 0, .int .i64 0, .int .i64 0, .int .i64 0, .slice none 0 0, .int .i64 0, .int .i64 0, .bool false, .int .i64 0, .slice none 0 0, .slice none 0 0] = true := by kernel_rfl
theorem fl44mA : flatS Tryz.prog 44 [.int .i64 0, .int .i64 0, .int .i64 0, .int .i64 0, .slice none 0 0] = true := by kernel_rfl
def volZ : VolV := ⟨0, 0, 0, 0, [], 0, 0, false, 0, [], []⟩
def newV (vo bl sz pe to : Int) (place : List Int) : VolV := ⟨vo, bl, sz, pe, place, to, 0, decide (0 < to), 0, [], []⟩
theorem newV_s {n : Nat} {vo bl sz pe to : Int} {place : List Int} (hN : NewOk vo bl sz pe to place) : VolS n (newV vo bl sz pe to place) := ⟨VolR.new hN, fun _ => rfl, Nat.zero_le _, Nat.zero_le _, fun _ h => by cases h⟩
theorem Rd.capL {S : Nat → Prop} {w : World} {p : Option Addr} {l c m : Nat} {rows : List (List D)} (h : Rd S w (.slice p l c) (.l m rows)) : rows.length ≤ c := by
 obtain ⟨pq, cq, hv, hc⟩ := h.l_shape
 injection hv with _ _ e3; omega
theorem itok {d : List Int} (h : d.length ≤ 32) : d.length ≤ 140737488351232 := by omega
theorem rnew_non (kd vo bl sz pe to at0 ix : Int) (place : List Int) (pp pi : Option Addr) (cp ni ci : Nat) (w0 : World) (h0 : Rd (fun _ => True) w0 (.slice pp place.length cp) (.ns .i64 place)) (hn : place.length ≤ 1000000) (hN : ¬ NewOk vo bl sz pe to place) :
   Calls Tryz.prog 50 #[.agg #[.int .i64 kd, .int .i64 vo, .int .i64 bl, .int .i64 sz, .int .i64 pe, .slice pp place.length cp, .int .i64 to, .int .i64 at0, .int .i64 ix, .slice pi ni ci]] w0 fun e w' => e = .returned (.tuple #[.agg #[.int .i64 0, .int .i64 0, .int .i64 0, .int .i64 0, .slice none 0 0, .int .i64 0, .int .i64 0, .bool false, .int .i64 0, .slice none 0 0, .slice none 0 0], .int .i64 23]) ∧ Below w0.heap.size w0 w' :=
 (rnew_any kd vo bl sz pe to at0 ix place pp pi cp ni ci w0 h0 hn).mono (fun _ _ h => h.elim (fun h => absurd h.1 hN) (fun h => h.2))
set_option maxRecDepth 100000
set_option maxHeartbeats 4000000
theorem rmVol (X : Cx) (B : Nat) (L : List VolV) (p : Option Addr) (c : Nat) (vo : Int) (w0 : World) (hl : L.length ≤ 1000000) (m0 : MemOk X w0 [(1, .box B 32 [.slice p (L.map volD).length c]), (2, .dat (.slice p (L.map volD).length c) (.l 11 (L.map volD)))] w0) :
   Calls Tryz.prog 19 #[.pointer (some ⟨B, 0, none⟩), .int .i64 vo] w0 fun e w' => ∃ (x : VolV) (there : Bool) (p1 p2 p3 : Option Addr) (d1 d2 d3 : Nat), e = .returned (.tuple #[.agg #[.int .i64 x.vo, .int .i64 x.bl, .int .i64 x.sz, .int .i64 x.pe, .slice p1 x.place.length d1, .int .i64 x.to, .int .i64 x.ne, .bool x.hi, .int .i64 x.fl, .slice p2 x.pins.length d2, .slice p3 (x.ws.map wrD).length d3], .bool there]) ∧ (there = true → x ∈ L) ∧ (there = false → x = volZ) ∧ MemOk X w0 [(1, .box B 32 [.slice p (L.map volD).length c]), (2, .dat (.slice p (L.map volD).length c) (.l 11 (L.map volD))), (3, .dat (.slice p1 x.place.length d1) (.ns .i64 x.place)), (4, .dat (.slice p2 x.pins.length d2) (.ns .i64 x.pins)), (5, .dat (.slice p3 (x.ws.map wrD).length d3) (.l 2 (x.ws.map wrD)))] w' := by
 refine ent2 Tryz.func19 rfl Tryz.ntmps19 fun Az Hz => ?_
 refine zsr fun K0 hK0 => ?_
 refine plz (e_alloc Hz m0 20 fct14 rfl fun g1 Az w2 Hz m2 _ _ => ?_)
 refine gz hK0 Hz (.assign rfl .nil) fun Az Hz => ?_
 refine zsr fun K1 hK1 => ?_
 refine goCh Hz (.move rfl <| .move rfl .nil) fun Az Hz => ?_
 refine plz (ecl Hz Tryz.func49 rfl (rfind _ _ L _ _ _ _ hl (m2.into [(1, 1), (2, 2)] (by decide) rfl)) ?_)
 rintro e w8 ⟨j, rfl, hj1, hj2, hm8⟩
 have mx8 := m2.back hm8 [(1, 1), (2, 2)] (by decide); clear hm8 m2
 have m8 := mx8.oz [1, 2, 20]
 refine ⟨_, rfl, ?_⟩; intro Az Hz
 refine gz hK1 Hz (.assign rfl .nil) fun Az Hz => ?_
 refine wsk fun K2 hK2 => ?_
 refine regS Hz (.move rfl <| .lss rfl rfl .nil) fun Az Hz => ?_
 refine bc Hz 11 ?_ ?_
 ·
  intro hb13 Hz; try simp only [QQ, Qax] at hb13
  refine wct Hz ?_
  replace Hz := Hz.oz [0, 4, 5, 6]
  refine zsr fun K3 hK3 => ?_
  refine goCh Hz (.build rfl fct14 fl51mV rfl (by dsimp only [setL, List.set] <;> rfl) .nil) fun Az Hz => ?_
  refine plz (stw Hz m8 20 fct13 fun w17 m17 _ => ?_)
  refine gz hK3 Hz (.assign rfl .nil) fun Az Hz => ?_
  refine rtd (retCT (fn := Tryz.f19) Hz m17 (i := 20) rfl rfl rfl rfl U51 rfl fct13 ?_)
  have mA := m17.dat 91 rfl (Rd.nilN _ _ .i64 none)
  have mB := mA.dat 92 rfl (Rd.nilN _ _ .i64 none)
  have mC := mB.dat 93 rfl (Rd.l0 none 0 2)
  exact ⟨volZ, false, _, _, _, _, _, _, rfl, (fun h => by cases h), (fun _ => rfl), mC.ren [(1, 1), (2, 2), (3, 91), (4, 92), (5, 93)] (by decide)⟩
 intro hb13 Hz; try simp only [QQ, Qax] at hb13
 revert Hz
 obtain ⟨jn, rfl⟩ : ∃ jn : Nat, j = (jn : Int) := ⟨j.toNat, by omega⟩
 intro Hz
 have hjl : jn < L.length := by omega
 obtain ⟨x, hes⟩ : ∃ x, L[jn]? = some x := ⟨_, List.getElem?_eq_getElem hjl⟩
 refine wcf Hz ?_
 refine zss (hK2 _ _ ?_)
 replace Hz := Hz.oz [0, 4, 5, 6]
 refine zsr fun K4 hK4 => ?_
 refine goCh Hz (.move rfl <| .nilCheck rfl <| .fa 0 rfl U32 <| .lb m8 1 U30 rfl rfl rfl <| .move rfl .nil) fun Az Hz => ?_
 obtain ⟨b31, o31, vs31, hp31, hR31, ho31, m31⟩ := m8.openR (i := 2) rfl (jn) (r := [.v (.int .i64 x.vo), .v (.int .i64 x.bl), .v (.int .i64 x.sz), .v (.int .i64 x.pe), .ns .i64 x.place, .v (.int .i64 x.to), .v (.int .i64 x.ne), .v (.bool x.hi), .v (.int .i64 x.fl), .ns .i64 x.pins, .l 2 (x.ws.map wrD)]) (volD_get hes) 21 rfl
 revert Hz
 cases hp31; clear m8 ho31
 rcases hR31 with _ | ⟨hd31_0, _ | ⟨hd31_1, _ | ⟨hd31_2, _ | ⟨hd31_3, _ | ⟨hd31_4, _ | ⟨hd31_5, _ | ⟨hd31_6, _ | ⟨hd31_7, _ | ⟨hd31_8, _ | ⟨hd31_9, _ | ⟨hd31_10, _ | _⟩⟩⟩⟩⟩⟩⟩⟩⟩⟩⟩
 obtain rfl := hd31_0.v_out
 clear hd31_0
 obtain rfl := hd31_1.v_out
 clear hd31_1
 obtain rfl := hd31_2.v_out
 clear hd31_2
 obtain rfl := hd31_3.v_out
 clear hd31_3
 obtain ⟨p32, c32, hv32, hc32⟩ := hd31_4.ns_shape; subst hv32
 intro Hz
 have m32 := m31.dat 22 rfl (hd31_4.cast (fun _ h => (free_add rfl h))); clear m31 hd31_4
 revert Hz
 obtain rfl := hd31_5.v_out
 clear hd31_5
 obtain rfl := hd31_6.v_out
 clear hd31_6
 obtain rfl := hd31_7.v_out
 clear hd31_7
 obtain rfl := hd31_8.v_out
 clear hd31_8
 obtain ⟨p33, c33, hv33, hc33⟩ := hd31_9.ns_shape; subst hv33
 intro Hz
 have m33 := m32.dat 23 rfl (hd31_9.cast (fun _ h => (free_add rfl (free_add rfl h)))); clear m32 hd31_9
 revert Hz
 obtain ⟨p34, c34, hv34, hc34⟩ := hd31_10.l_shape; subst hv34
 intro Hz
 have m34 := m33.dat 24 rfl (hd31_10.cast (fun _ h => (free_add rfl (free_add rfl (free_add rfl h))))); clear m33 hd31_10
 refine goCh Hz (.c rfl (fun _ h_ => y_idx h_ rfl rfl U30 fct13 (jn) rfl (by simpa using hjl)) <| .loadCR m34 (i := 21) rfl rfl U51 rfl fct13 .nil) fun Az Hz => ?_
 refine plz (stw Hz m34 20 fct13 fun w37 m37 _ => ?_)
 refine gz hK4 Hz (.assign rfl .nil) fun Az Hz => ?_
 refine rtd (retCT (fn := Tryz.f19) Hz m37 (i := 20) rfl rfl rfl rfl U51 rfl fct13 ?_)
 exact ⟨x, true, _, _, _, _, _, _, rfl, (fun _ => List.mem_of_getElem? hes), (fun h => by cases h), m37.ren [(1, 1), (2, 2), (3, 22), (4, 23), (5, 24)] (by decide)⟩
theorem rmApply (X : Cx) (B n : Nat) (L : List VolV) (p : Option Addr) (c : Nat) (b : List Int) (pb : Option Addr) (cb : Nat) (w0 : World) (hM : MacS n L) (hn : n ≤ 800000) (hb : b.length ≤ 1000000) (hbb : BytesL b) (m0 : MemOk X w0 [(1, .box B 32 [.slice p (L.map volD).length c]), (2, .dat (.slice p (L.map volD).length c) (.l 11 (L.map volD))), (3, .dat (.slice pb b.length cb) (.ns .u8 b))] w0) :
   Calls Tryz.prog 15 #[.pointer (some ⟨B, 0, none⟩), .slice pb b.length cb] w0 fun e w' => ∃ (e9 rl rf rn : Int) (L' : List VolV) (p' : Option Addr) (c' : Nat), e = .returned (.agg #[.int .i64 e9, .int .i64 rl, .int .i64 rf, .int .i64 rn, .slice none 0 0]) ∧ MacS (n + 1) L' ∧ MemOk X w0 [(1, .box B 32 [.slice p' (L'.map volD).length c']), (2, .dat (.slice p' (L'.map volD).length c') (.l 11 (L'.map volD)))] w' := by
 refine ent2 Tryz.func15 rfl Tryz.ntmps15 fun Az Hz => ?_
 have hl : L.length ≤ 1000000 := by have := hM.1; omega
 have hlm : (L.map volD).length ≤ 1000000 := by simpa using hl
 refine zsr fun K0 hK0 => ?_
 refine plz (e_alloc Hz m0 20 fct27 rfl fun g1 Az w2 Hz m2 _ _ => ?_)
 refine znl (hK0 _ _ ?_)
 refine zsr fun K1 hK1 => ?_
 refine goCh Hz (.move rfl .nil) fun Az Hz => ?_
 refine plz (ecl Hz Tryz.func29 rfl (rreadCmd _ b _ _ _ hb hbb (m2.into [(1, 3)] (by decide) rfl)) ?_)
 rintro e w5 ⟨kd, vo, bl, sz, pe, to, at0, ix, place, items, pp5, cp5, pi5, ci5, er, rfl, hpl, hil, hii, hm5⟩
 have mx5 := m2.back hm5 [(21, 1), (22, 2)] (by decide); clear hm5 m2
 have m5 := mx5.oz [21, 22, 1, 2, 20]
 refine ⟨_, rfl, ?_⟩; intro Az Hz
 refine goCh Hz (.move rfl <| .extract rfl rfl <| .extract rfl rfl .nil) fun Az Hz => ?_
 refine plz (e_alloc Hz m5 23 fct24 rfl fun g10 Az w11 Hz m11 _ _ => ?_)
 refine plz (stw Hz m11 23 fct20 fun w12 m12 _ => ?_)
 refine gz hK1 Hz (.assign rfl .nil) fun Az Hz => ?_
 refine wsk fun K2 hK2 => ?_
 replace Hz := Hz.oz [0, 4, 5, 6]
 refine regS Hz (.move rfl <| .neq rfl rfl .nil) fun Az Hz => ?_
 refine bc Hz 19 ?_ ?_
 ·
  intro hb17 Hz; try simp only [QQ, Qax] at hb17
  refine wct Hz ?_
  refine zsr fun K3 hK3 => ?_
  refine goCh Hz (.build rfl fct27 fl44mA rfl (by dsimp only [setL, List.set] <;> rfl) .nil) fun Az Hz => ?_
  refine plz (stw Hz m12 20 fct26 fun w20 m20 _ => ?_)
  refine znl (hK3 _ _ ?_)
  refine rtd (retC (fn := Tryz.f15) Hz m20 (i := 20) rfl rfl rfl U44 rfl fct26 ?_)
  exact ⟨_, _, _, _, L, _, _, rfl, hM.up (by omega), m20.only [1, 2]⟩
 intro hb17 Hz; try simp only [QQ, Qax] at hb17
 refine wcf Hz ?_
 refine zss (hK2 _ _ ?_)
 refine zsr fun K4 hK4 => ?_
 refine goCh Hz (.move rfl <| .fa 1 rfl U38 <| .lb m12 23 U3 rfl rfl rfl .nil) fun Az Hz => ?_
 refine plz (ecl Hz Tryz.func49 rfl (rfind _ _ L _ _ _ _ hl (m12.into [(1, 1), (2, 2)] (by decide) rfl)) ?_)
 rintro e w27 ⟨j, rfl, hj1, hj2, hm27⟩
 have mx27 := m12.back hm27 [(1, 1), (2, 2)] (by decide); clear hm27 m12
 have m27 := mx27.oz [1, 2, 20, 21, 22, 23]
 refine ⟨_, rfl, ?_⟩; intro Az Hz
 refine gz hK4 Hz (.assign rfl .nil) fun Az Hz => ?_
 replace Hz := Hz.oz [0, 4, 5, 7]
 refine zsr fun K5 hK5 => ?_
 refine goCh Hz (.move rfl <| .nilCheck rfl <| .fa 0 rfl U32 <| .lb m27 1 U30 rfl rfl rfl .nil) fun Az Hz => ?_
 have m39 := m27.nilR 24 51 11
 refine plz (e_appR Hz m39 24 rfl rfl rfl (m39.rd (i := 2) rfl) U30 fct34 rfl rfl (by decide) (by simp; omega) rfl fun p40 c40 Az w41 Hz m41 => ?_)
 refine gz hK5 Hz (.assign rfl .nil) fun Az Hz => ?_
 refine wsk fun K6 hK6 => ?_
 refine regS Hz (.fa 0 rfl U38 <| .lb m41 23 U3 rfl rfl rfl <| .eql rfl rfl .nil) fun Az Hz => ?_
 refine bc Hz 32 ?_ ?_
 ·
  intro hb46 Hz; try simp only [QQ, Qax] at hb46
  have hkd : kd = 1 := by simpa using hb46
  refine wct Hz ?_
  refine wsk fun K7 hK7 => ?_
  replace Hz := Hz.oz [0, 4, 5, 7, 8]
  refine zsr fun K8 hK8 => ?_
  have m49 := m41.freezeR 24 rfl
  refine gz hK8 Hz (.move rfl <| .geq rfl rfl <| .nil) fun Az Hz => ?_
  refine bc Hz 34 ?_ ?_
  ·
   intro hb52 Hz; try simp only [QQ, Qax] at hb52
   refine wct Hz ?_
   refine zsr fun K9 hK9 => ?_
   refine goCh Hz (.build rfl fct27 fl44mA rfl (by dsimp only [setL, List.set] <;> rfl) .nil) fun Az Hz => ?_
   refine plz (stw Hz m49 20 fct26 fun w55 m55 _ => ?_)
   refine znl (hK9 _ _ ?_)
   refine rtd (retC (fn := Tryz.f15) Hz m55 (i := 20) rfl rfl rfl U44 rfl fct26 ?_)
   exact ⟨_, _, _, _, L, _, _, rfl, hM.up (by omega), m55.only [1, 2]⟩
  intro hb52 Hz; try simp only [QQ, Qax] at hb52
  refine wcf Hz ?_
  refine zss (hK7 _ _ ?_)
  refine wsk fun K10 hK10 => ?_
  by_cases hN : NewOk vo bl sz pe to place
  ·
   refine wp_region_lit ?_
   refine goCh Hz (.loadBR m49 (i := 23) rfl rfl U38 rfl fct20 (by simp) (by dsimp only [List.drop, List.take] <;> rfl) .nil) fun Az Hz => ?_
   refine plz (ecl Hz Tryz.func50 rfl (rnew_yes _ vo bl sz pe to _ _ place _ _ _ _ _ _ ((m49.rd (i := 21) rfl).any) (by omega) hN) ?_)
   rintro e w57 ⟨p57, c57, rfl, hd57, hb57⟩
   have m58 := m49.callF 25 rfl hb57 hd57
   refine ⟨_, rfl, ?_⟩; intro Az Hz
   refine goCh Hz (.move rfl <| .extract rfl rfl <| .extract rfl rfl .nil) fun Az Hz => ?_
   refine plz (e_alloc Hz m58 26 fct14 rfl fun g63 Az w64 Hz m64 _ _ => ?_)
   refine plz (stw Hz m64 26 fct13 fun w65 m65 _ => ?_)
   refine gz hK10 Hz (.assign rfl .nil) fun Az Hz => ?_
   refine wsk fun K11 hK11 => ?_
   replace Hz := Hz.oz [0, 4, 5, 7, 8, 9, 10]
   refine regS Hz (.move rfl <| .neq rfl rfl .nil) fun Az Hz => ?_
   refine bc Hz 42 ?_ ?_
   · intro hb _; exact absurd hb (by simp)
   clear Hz; intro _ Hz
   refine wcf Hz ?_
   refine zss (hK11 _ _ ?_)
   refine regS Hz (.assign rfl .nil) fun Az Hz => ?_
   refine wsk fun K12 hK12 => ?_
   refine wp_block ?_
   refine wp_loop_ghost (fun g a w => ∃ (k B4 B5 B9 c8 c9 n1 d1 n2 d2 : Nat) (p8 p9 q1 q2 : Option Addr), k ≤ (L.map volD).length ∧ g = (L.map volD).length - k ∧ Has 97 [(0, .pointer (some ⟨B, 0, none⟩)), (4, .pointer (some ⟨B4, 0, none⟩)), (5, .pointer (some ⟨B5, 0, none⟩)), (7, .int .i64 k), (8, .slice p8 (L.map volD).length c8), (9, .pointer (some ⟨B9, 0, none⟩))] a ∧ MemOk X w0 [(1, .box B 32 [.slice p (L.map volD).length c]), (2, .dat (.slice p (L.map volD).length c) (.l 11 (L.map volD))), (4, .box B4 44 [.int .i64 0, .int .i64 0, .int .i64 0, .int .i64 0, .slice none 0 0]), (5, .box B5 38 [.int .i64 kd, .int .i64 vo, .int .i64 bl, .int .i64 sz, .int .i64 pe, .slice q1 n1 d1, .int .i64 to, .int .i64 at0, .int .i64 ix, .slice q2 n2 d2]), (9, .box B9 51 [.int .i64 vo, .int .i64 bl, .int .i64 sz, .int .i64 pe, .slice p9 place.length c9, .int .i64 to, .int .i64 0, .bool (decide (0 < to)), .int .i64 0, .slice none 0 0, .slice none 0 0]), (8, .dat (.slice p8 (L.map volD).length c8) (.l 11 (L.map volD))), (10, .dat (.slice p9 place.length c9) (.ns .i64 place))] w) ((L.map volD).length) ?_ ?_
   · exact ⟨0, _, _, _, _, _, _, _, _, _, _, _, _, _, Nat.zero_le _, rfl, Hz.only [0, 4, 5, 7, 8, 9], m65.ren [(1, 1), (2, 2), (4, 20), (5, 23), (9, 26), (8, 24), (10, 25)] (by decide)⟩
   clear Hz m65
   rintro g Az w72 ⟨k, B4, B5, B9, c8, c9, n1, d1, n2, d2, p8, p9, q1, q2, hkl, hg, Hz, m72⟩
   refine wsk fun K13 hK13 => ?_
   refine wsk fun K14 hK14 => ?_
   by_cases hk : k < (L.map volD).length
   ·
    obtain ⟨z9, hes9⟩ : ∃ x, L[k]? = some x := ⟨_, List.getElem?_eq_getElem (by simpa using hk)⟩
    obtain ⟨b73, o73, vs73, hp73, hR73, ho73, m73⟩ := m72.openR (i := 8) rfl (k) (r := [.v (.int .i64 z9.vo), .v (.int .i64 z9.bl), .v (.int .i64 z9.sz), .v (.int .i64 z9.pe), .ns .i64 z9.place, .v (.int .i64 z9.to), .v (.int .i64 z9.ne), .v (.bool z9.hi), .v (.int .i64 z9.fl), .ns .i64 z9.pins, .l 2 (z9.ws.map wrD)]) (volD_get hes9) 100 rfl
    revert Hz
    cases hp73; clear m72 ho73
    rcases hR73 with _ | ⟨hd73_0, _ | ⟨hd73_1, _ | ⟨hd73_2, _ | ⟨hd73_3, _ | ⟨hd73_4, _ | ⟨hd73_5, _ | ⟨hd73_6, _ | ⟨hd73_7, _ | ⟨hd73_8, _ | ⟨hd73_9, _ | ⟨hd73_10, _ | _⟩⟩⟩⟩⟩⟩⟩⟩⟩⟩⟩
    obtain rfl := hd73_0.v_out
    clear hd73_0
    obtain rfl := hd73_1.v_out
    clear hd73_1
    obtain rfl := hd73_2.v_out
    clear hd73_2
    obtain rfl := hd73_3.v_out
    clear hd73_3
    obtain ⟨p74, c74, hv74, hc74⟩ := hd73_4.ns_shape; subst hv74
    intro Hz
    have m74 := m73.dat 101 rfl (hd73_4.cast (fun _ h => (free_add rfl h))); clear m73 hd73_4
    revert Hz
    obtain rfl := hd73_5.v_out
    clear hd73_5
    obtain rfl := hd73_6.v_out
    clear hd73_6
    obtain rfl := hd73_7.v_out
    clear hd73_7
    obtain rfl := hd73_8.v_out
    clear hd73_8
    obtain ⟨p75, c75, hv75, hc75⟩ := hd73_9.ns_shape; subst hv75
    intro Hz
    have m75 := m74.dat 102 rfl (hd73_9.cast (fun _ h => (free_add rfl (free_add rfl h)))); clear m74 hd73_9
    revert Hz
    obtain ⟨p76, c76, hv76, hc76⟩ := hd73_10.l_shape; subst hv76
    intro Hz
    have m76 := m75.dat 103 rfl (hd73_10.cast (fun _ h => (free_add rfl (free_add rfl (free_add rfl h))))); clear m75 hd73_10
    have m77 := m76.oz [1, 2, 4, 5, 8, 9, 10, 100, 101, 102, 103]
    refine region_p 14 (B := [(1, _), (2, _), (4, _), (5, _), (8, _), (9, _), (10, _), (100, _), (101, _), (102, _), (103, _)]) (m77.to ⟨il, il, il, il, il, il, il, il, il, il, il, trivial⟩) m77 (by kernel_rfl) (fun w78 hP78 m78 => ?_); clear m77
    refine goA hP78 [0, 1, 2, 3, 4] 5 0 31 Hz (m78.to ⟨il, il, il, il, il, il, il, il, il, il, il, trivial⟩) (.move rfl <| .move rfl <| .len rfl U30 <| .lss rfl rfl <| .move rfl .nil) fun Az Hz => ?_
    refine bc Hz 49 ?_ ?_
    rotate_left
    · intro hb _; exact absurd hb (by simpa using hk)
    clear Hz; intro _ Hz
    refine goR hP78 [5, 6, 7, 8, 9, 10, 11, 12, 13] [9, 11] 9 31 16383 Hz (m78.to ⟨il, il, il, il, il, il, il, il, il, il, il, trivial⟩) (.move rfl <| .move rfl <| .p (fun _ _ h_ => y_idx h_ rfl rfl U30 fct13 (k) rfl hk) <| .fieldAddrQ 0 rfl U51 rfl (s := 0) (by kernel_rfl) rfl <| .loadC0 hh (i := 100) rfl rfl U3 rfl <| .fa 1 rfl U38 <| .lb hh 5 U3 rfl rfl rfl <| .lss rfl rfl <| .pickT rfl rfl .nil) fun Az Hz => ?_
    refine wpAnyE_done (by kernel_rfl) ?_ _
    refine hK14 _ _ ?_
    refine bc Hz 58 ?_ ?_
    ·
     intro hb94 Hz; try simp only [QQ, Qax] at hb94
     refine wct Hz ?_
     refine zss (hK13 _ _ ?_)
     refine wp_block ?_
     replace Hz := Hz.oz [0, 4, 5, 7, 8, 9]
     refine wp_region_lit ?_
     refine goCh Hz (.move rfl <| .inc (k + 1) <| .assign rfl .nil) fun Az Hz => ?_
     refine wpList_nil ?_
     show ∃ n', n' < _ ∧ _
     exact ⟨(L.map volD).length - (k + 1), by omega, k + 1, _, _, _, _, _, _, _, _, _, _, _, _, _, by omega, rfl, Hz.only [0, 4, 5, 7, 8, 9], m78.only [1, 2, 4, 5, 9, 8, 10]⟩
    intro hb94 Hz; try simp only [QQ, Qax] at hb94
    refine wcf Hz ?_
    refine wp_exit ?_
    refine hK12 _ _ ?_
    refine wsk fun K15 hK15 => ?_
    replace Hz := Hz.oz [0, 4, 5, 7, 8, 9]
    have m100 := m78.oz [1, 2, 4, 5, 8, 9, 10, 100, 101, 102, 103]
    refine region_p 14 (B := [(1, _), (2, _), (4, _), (5, _), (8, _), (9, _), (10, _), (100, _), (101, _), (102, _), (103, _)]) (m100.to ⟨il, il, il, il, il, il, il, il, il, il, il, trivial⟩) m100 (by kernel_rfl) (fun w101 hP101 m101 => ?_); clear m100
    refine goA hP101 [0, 1, 2] 3 0 7 Hz (m101.to ⟨il, il, il, il, il, il, il, il, il, il, il, trivial⟩) (.move rfl <| .move rfl <| .move rfl .nil) fun Az Hz => ?_
    have hcap106 := Rd.capL (m101.rd (i := 8) rfl)
    have m105 := m101.takeR (i := 8) rfl k hkl 104 rfl
    refine goR hP101 [3, 5, 8, 9] [5] 4 7 815 Hz (m105.to ⟨il, il, il, il, il, il, il, il, il, il, il, trivial⟩) (.p (fun _ _ h_ => y_sliceHn h_ k rfl rfl U30 fct13 rfl (Nat.le_trans hkl hcap106)) <| .loadBR hh (i := 9) rfl rfl U51 rfl fct13 (by simp) (by dsimp only [List.drop, List.take] <;> rfl) <| .move rfl <| .move rfl .nil) fun Az Hz => ?_
    have m111 := m105.dropR (i := 8) rfl k hkl 105 rfl
    refine goA hP101 [10] 1 815 1839 Hz (m111.to ⟨il, il, il, il, il, il, il, il, il, il, il, trivial⟩) (.p (fun _ _ h_ => y_sliceLn h_ k rfl rfl U30 fct13 rfl hkl) .nil) fun Az Hz => ?_
    refine d_two 4 6 rfl rfl (by kernel_rfl) rfl rfl (fun K hK => ?_) (fun K hK => ?_)
    ·
     have m113 := m111.nilR 106 51 11
     refine e_appR Hz m113 106 rfl rfl rfl (m113.rd (i := 104) rfl) U30 fct34 rfl rfl (by decide) (by simp; omega) rfl ?_
     intro p114 c114 Az w115 Hz m115
     refine hK _ _ (fun _ => (m115.to ⟨il, il, il, il, il, il, il, il, il, il, il, trivial⟩)) ?_; clear hK K
     refine so 6 ?_
     refine e_litR Hz m115 107 (mm := 11) rfl (.cons rfl rfl (.cons (.v _) (.cons (.v _) (.cons (.v _) (.cons (.v _) (.cons (m115.rd (i := 10) rfl) (.cons (.v _) (.cons (.v _) (.cons (.v _) (.cons (.v _) (.cons (Rd.nilN _ _ .i64 _) (.cons (.l0 _ _ 2) .nil))))))))))) .nil) U30 fct34 rfl rfl rfl rfl rfl fun g116 Az w117 Hz m117 => ?_
     refine ⟨m117.to ⟨il, il, il, il, il, il, il, il, il, il, il, trivial⟩, ?_⟩
     have m119 := m117.freezeR 107 rfl
     refine so 7 ?_
     refine e_appR Hz m119 106 rfl rfl rfl (m119.rd (i := 107) rfl) U30 fct34 rfl rfl (by decide) (by simp; omega) rfl fun p118 c118 Az w120 Hz m120 => ?_
     refine ⟨m120.to ⟨il, il, il, il, il, il, il, il, il, il, il, trivial⟩, ?_⟩
     refine so 11 ?_
     refine e_appR Hz m120 106 rfl rfl rfl (m120.rd (i := 105) rfl) U30 fct34 rfl rfl (by decide) (by simp; omega) rfl fun p121 c121 Az w122 Hz m122 => ?_
     refine ⟨m122.to ⟨il, il, il, il, il, il, il, il, il, il, il, trivial⟩, ?_⟩
     refine goA hP101 [12, 13] 2 4095 16383 Hz (m122.to ⟨il, il, il, il, il, il, il, il, il, il, il, trivial⟩) (.nilCheck rfl <| .fa 0 rfl U32 .nil) fun Az Hz => ?_
     refine se 14 ?_
     refine st1 Hz m122 1 fct39 fun w125 m125 _ => ?_
     refine wpAnyE_done (by kernel_rfl) ?_ _
     refine hK15 _ _ ?_
     replace Hz := Hz.oz [0, 4, 5, 7, 8, 9]
     refine zsr fun K16 hK16 => ?_
     refine goCh Hz (.build rfl fct27 fl44mA rfl (by dsimp only [setL, List.set] <;> rfl) .nil) fun Az Hz => ?_
     refine plz (stw Hz m125 4 fct26 fun w129 m129 _ => ?_)
     refine znl (hK16 _ _ ?_)
     refine rtd (retC (fn := Tryz.f15) Hz m129 (i := 4) rfl rfl rfl U44 rfl fct26 ?_)
     have m130 := m129.freezeR 106 rfl
     have hrw : [] ++ List.take k (L.map volD) ++ [[.v (.int .i64 (newV vo bl sz pe to place).vo), .v (.int .i64 (newV vo bl sz pe to place).bl), .v (.int .i64 (newV vo bl sz pe to place).sz), .v (.int .i64 (newV vo bl sz pe to place).pe), .ns .i64 (newV vo bl sz pe to place).place, .v (.int .i64 (newV vo bl sz pe to place).to), .v (.int .i64 (newV vo bl sz pe to place).ne), .v (.bool (newV vo bl sz pe to place).hi), .v (.int .i64 (newV vo bl sz pe to place).fl), .ns .i64 (newV vo bl sz pe to place).pins, .l 2 ((newV vo bl sz pe to place).ws.map wrD)]] ++ List.drop k (L.map volD) = (L.take k ++ [newV vo bl sz pe to place] ++ L.drop k).map volD := by simp [volD, newV]
     simp only [newV] at hrw
     erw [hrw] at m130
     exact ⟨_, _, _, _, L.take k ++ [newV vo bl sz pe to place] ++ L.drop k, _, _, rfl, hM.ins (newV_s hN) k, m130.ren [(1, 1), (2, 106)] (by decide)⟩
    refine e_litR Hz m111 106 (mm := 11) rfl (.cons rfl rfl (.cons (.v _) (.cons (.v _) (.cons (.v _) (.cons (.v _) (.cons (m111.rd (i := 10) rfl) (.cons (.v _) (.cons (.v _) (.cons (.v _) (.cons (.v _) (.cons (Rd.nilN _ _ .i64 _) (.cons (.l0 _ _ 2) .nil))))))))))) .nil) U30 fct34 rfl rfl rfl rfl rfl ?_
    intro g131 Az w132 Hz m132
    refine hK _ _ (fun _ => (m132.to ⟨il, il, il, il, il, il, il, il, il, il, il, trivial⟩)) ?_; clear hK K
    have m133 := m132.nilR 107 51 11
    refine so 4 ?_
    refine e_appR Hz m133 107 rfl rfl rfl (m133.rd (i := 104) rfl) U30 fct34 rfl rfl (by decide) (by simp; omega) rfl fun p134 c134 Az w135 Hz m135 => ?_
    refine ⟨m135.to ⟨il, il, il, il, il, il, il, il, il, il, il, trivial⟩, ?_⟩
    have m137 := m135.freezeR 106 rfl
    refine so 7 ?_
    refine e_appR Hz m137 107 rfl rfl rfl (m137.rd (i := 106) rfl) U30 fct34 rfl rfl (by decide) (by simp; omega) rfl fun p136 c136 Az w138 Hz m138 => ?_
    refine ⟨m138.to ⟨il, il, il, il, il, il, il, il, il, il, il, trivial⟩, ?_⟩
    refine so 11 ?_
    refine e_appR Hz m138 107 rfl rfl rfl (m138.rd (i := 105) rfl) U30 fct34 rfl rfl (by decide) (by simp; omega) rfl fun p139 c139 Az w140 Hz m140 => ?_
    refine ⟨m140.to ⟨il, il, il, il, il, il, il, il, il, il, il, trivial⟩, ?_⟩
    refine goA hP101 [12, 13] 2 4095 16383 Hz (m140.to ⟨il, il, il, il, il, il, il, il, il, il, il, trivial⟩) (.nilCheck rfl <| .fa 0 rfl U32 .nil) fun Az Hz => ?_
    refine se 14 ?_
    refine st1 Hz m140 1 fct39 fun w143 m143 _ => ?_
    refine wpAnyE_done (by kernel_rfl) ?_ _
    refine hK15 _ _ ?_
    replace Hz := Hz.oz [0, 4, 5, 7, 8, 9]
    refine zsr fun K17 hK17 => ?_
    refine goCh Hz (.build rfl fct27 fl44mA rfl (by dsimp only [setL, List.set] <;> rfl) .nil) fun Az Hz => ?_
    refine plz (stw Hz m143 4 fct26 fun w147 m147 _ => ?_)
    refine znl (hK17 _ _ ?_)
    refine rtd (retC (fn := Tryz.f15) Hz m147 (i := 4) rfl rfl rfl U44 rfl fct26 ?_)
    have m148 := m147.freezeR 107 rfl
    have hrw : [] ++ List.take k (L.map volD) ++ [[.v (.int .i64 (newV vo bl sz pe to place).vo), .v (.int .i64 (newV vo bl sz pe to place).bl), .v (.int .i64 (newV vo bl sz pe to place).sz), .v (.int .i64 (newV vo bl sz pe to place).pe), .ns .i64 (newV vo bl sz pe to place).place, .v (.int .i64 (newV vo bl sz pe to place).to), .v (.int .i64 (newV vo bl sz pe to place).ne), .v (.bool (newV vo bl sz pe to place).hi), .v (.int .i64 (newV vo bl sz pe to place).fl), .ns .i64 (newV vo bl sz pe to place).pins, .l 2 ((newV vo bl sz pe to place).ws.map wrD)]] ++ List.drop k (L.map volD) = (L.take k ++ [newV vo bl sz pe to place] ++ L.drop k).map volD := by simp [volD, newV]
    simp only [newV] at hrw
    erw [hrw] at m148
    exact ⟨_, _, _, _, L.take k ++ [newV vo bl sz pe to place] ++ L.drop k, _, _, rfl, hM.ins (newV_s hN) k, m148.ren [(1, 1), (2, 107)] (by decide)⟩
   have m149 := m72.oz [1, 2, 4, 5, 8, 9, 10]
   refine region_p 14 (B := [(1, _), (2, _), (4, _), (5, _), (8, _), (9, _), (10, _)]) (m149.to ⟨il, il, il, il, il, il, il, trivial⟩) m149 (by kernel_rfl) (fun w150 hP150 m150 => ?_); clear m149
   refine goA hP150 [0, 1, 2, 3, 4] 5 0 31 Hz (m150.to ⟨il, il, il, il, il, il, il, trivial⟩) (.move rfl <| .move rfl <| .len rfl U30 <| .lss rfl rfl <| .move rfl .nil) fun Az Hz => ?_
   refine bc Hz 49 ?_ ?_
   · intro hb _; exact absurd hb (by simpa using hk)
   clear Hz; intro _ Hz
   refine goA hP150 [5, 6, 7, 8, 9, 10, 11, 12, 13] 9 31 16383 Hz (m150.to ⟨il, il, il, il, il, il, il, trivial⟩) (.s <| .s <| .s <| .s <| .s <| .s <| .s <| .s <| .pickF rfl rfl .nil) fun Az Hz => ?_
   refine wpAnyE_done (by kernel_rfl) ?_ _
   refine hK14 _ _ ?_
   refine wcf Hz ?_
   refine wp_exit ?_
   refine hK12 _ _ ?_
   refine wsk fun K18 hK18 => ?_
   replace Hz := Hz.oz [0, 4, 5, 7, 8, 9]
   have m167 := m150.oz [1, 2, 4, 5, 8, 9, 10]
   refine region_p 14 (B := [(1, _), (2, _), (4, _), (5, _), (8, _), (9, _), (10, _)]) (m167.to ⟨il, il, il, il, il, il, il, trivial⟩) m167 (by kernel_rfl) (fun w168 hP168 m168 => ?_); clear m167
   refine goA hP168 [0, 1, 2] 3 0 7 Hz (m168.to ⟨il, il, il, il, il, il, il, trivial⟩) (.move rfl <| .move rfl <| .move rfl .nil) fun Az Hz => ?_
   have hcap173 := Rd.capL (m168.rd (i := 8) rfl)
   have m172 := m168.takeR (i := 8) rfl k hkl 100 rfl
   refine goR hP168 [3, 5, 8, 9] [5] 4 7 815 Hz (m172.to ⟨il, il, il, il, il, il, il, trivial⟩) (.p (fun _ _ h_ => y_sliceHn h_ k rfl rfl U30 fct13 rfl (Nat.le_trans hkl hcap173)) <| .loadBR hh (i := 9) rfl rfl U51 rfl fct13 (by simp) (by dsimp only [List.drop, List.take] <;> rfl) <| .move rfl <| .move rfl .nil) fun Az Hz => ?_
   have m178 := m172.dropR (i := 8) rfl k hkl 101 rfl
   refine goA hP168 [10] 1 815 1839 Hz (m178.to ⟨il, il, il, il, il, il, il, trivial⟩) (.p (fun _ _ h_ => y_sliceLn h_ k rfl rfl U30 fct13 rfl hkl) .nil) fun Az Hz => ?_
   refine d_two 4 6 rfl rfl (by kernel_rfl) rfl rfl (fun K hK => ?_) (fun K hK => ?_)
   ·
    have m180 := m178.nilR 102 51 11
    refine e_appR Hz m180 102 rfl rfl rfl (m180.rd (i := 100) rfl) U30 fct34 rfl rfl (by decide) (by simp; omega) rfl ?_
    intro p181 c181 Az w182 Hz m182
    refine hK _ _ (fun _ => (m182.to ⟨il, il, il, il, il, il, il, trivial⟩)) ?_; clear hK K
    refine so 6 ?_
    refine e_litR Hz m182 103 (mm := 11) rfl (.cons rfl rfl (.cons (.v _) (.cons (.v _) (.cons (.v _) (.cons (.v _) (.cons (m182.rd (i := 10) rfl) (.cons (.v _) (.cons (.v _) (.cons (.v _) (.cons (.v _) (.cons (Rd.nilN _ _ .i64 _) (.cons (.l0 _ _ 2) .nil))))))))))) .nil) U30 fct34 rfl rfl rfl rfl rfl fun g183 Az w184 Hz m184 => ?_
    refine ⟨m184.to ⟨il, il, il, il, il, il, il, trivial⟩, ?_⟩
    have m186 := m184.freezeR 103 rfl
    refine so 7 ?_
    refine e_appR Hz m186 102 rfl rfl rfl (m186.rd (i := 103) rfl) U30 fct34 rfl rfl (by decide) (by simp; omega) rfl fun p185 c185 Az w187 Hz m187 => ?_
    refine ⟨m187.to ⟨il, il, il, il, il, il, il, trivial⟩, ?_⟩
    refine so 11 ?_
    refine e_appR Hz m187 102 rfl rfl rfl (m187.rd (i := 101) rfl) U30 fct34 rfl rfl (by decide) (by simp; omega) rfl fun p188 c188 Az w189 Hz m189 => ?_
    refine ⟨m189.to ⟨il, il, il, il, il, il, il, trivial⟩, ?_⟩
    refine goA hP168 [12, 13] 2 4095 16383 Hz (m189.to ⟨il, il, il, il, il, il, il, trivial⟩) (.nilCheck rfl <| .fa 0 rfl U32 .nil) fun Az Hz => ?_
    refine se 14 ?_
    refine st1 Hz m189 1 fct39 fun w192 m192 _ => ?_
    refine wpAnyE_done (by kernel_rfl) ?_ _
    refine hK18 _ _ ?_
    replace Hz := Hz.oz [0, 4, 5, 7, 8, 9]
    refine zsr fun K19 hK19 => ?_
    refine goCh Hz (.build rfl fct27 fl44mA rfl (by dsimp only [setL, List.set] <;> rfl) .nil) fun Az Hz => ?_
    refine plz (stw Hz m192 4 fct26 fun w196 m196 _ => ?_)
    refine znl (hK19 _ _ ?_)
    refine rtd (retC (fn := Tryz.f15) Hz m196 (i := 4) rfl rfl rfl U44 rfl fct26 ?_)
    have m197 := m196.freezeR 102 rfl
    have hrw : [] ++ List.take k (L.map volD) ++ [[.v (.int .i64 (newV vo bl sz pe to place).vo), .v (.int .i64 (newV vo bl sz pe to place).bl), .v (.int .i64 (newV vo bl sz pe to place).sz), .v (.int .i64 (newV vo bl sz pe to place).pe), .ns .i64 (newV vo bl sz pe to place).place, .v (.int .i64 (newV vo bl sz pe to place).to), .v (.int .i64 (newV vo bl sz pe to place).ne), .v (.bool (newV vo bl sz pe to place).hi), .v (.int .i64 (newV vo bl sz pe to place).fl), .ns .i64 (newV vo bl sz pe to place).pins, .l 2 ((newV vo bl sz pe to place).ws.map wrD)]] ++ List.drop k (L.map volD) = (L.take k ++ [newV vo bl sz pe to place] ++ L.drop k).map volD := by simp [volD, newV]
    simp only [newV] at hrw
    erw [hrw] at m197
    exact ⟨_, _, _, _, L.take k ++ [newV vo bl sz pe to place] ++ L.drop k, _, _, rfl, hM.ins (newV_s hN) k, m197.ren [(1, 1), (2, 102)] (by decide)⟩
   refine e_litR Hz m178 102 (mm := 11) rfl (.cons rfl rfl (.cons (.v _) (.cons (.v _) (.cons (.v _) (.cons (.v _) (.cons (m178.rd (i := 10) rfl) (.cons (.v _) (.cons (.v _) (.cons (.v _) (.cons (.v _) (.cons (Rd.nilN _ _ .i64 _) (.cons (.l0 _ _ 2) .nil))))))))))) .nil) U30 fct34 rfl rfl rfl rfl rfl ?_
   intro g198 Az w199 Hz m199
   refine hK _ _ (fun _ => (m199.to ⟨il, il, il, il, il, il, il, trivial⟩)) ?_; clear hK K
   have m200 := m199.nilR 103 51 11
   refine so 4 ?_
   refine e_appR Hz m200 103 rfl rfl rfl (m200.rd (i := 100) rfl) U30 fct34 rfl rfl (by decide) (by simp; omega) rfl fun p201 c201 Az w202 Hz m202 => ?_
   refine ⟨m202.to ⟨il, il, il, il, il, il, il, trivial⟩, ?_⟩
   have m204 := m202.freezeR 102 rfl
   refine so 7 ?_
   refine e_appR Hz m204 103 rfl rfl rfl (m204.rd (i := 102) rfl) U30 fct34 rfl rfl (by decide) (by simp; omega) rfl fun p203 c203 Az w205 Hz m205 => ?_
   refine ⟨m205.to ⟨il, il, il, il, il, il, il, trivial⟩, ?_⟩
   refine so 11 ?_
   refine e_appR Hz m205 103 rfl rfl rfl (m205.rd (i := 101) rfl) U30 fct34 rfl rfl (by decide) (by simp; omega) rfl fun p206 c206 Az w207 Hz m207 => ?_
   refine ⟨m207.to ⟨il, il, il, il, il, il, il, trivial⟩, ?_⟩
   refine goA hP168 [12, 13] 2 4095 16383 Hz (m207.to ⟨il, il, il, il, il, il, il, trivial⟩) (.nilCheck rfl <| .fa 0 rfl U32 .nil) fun Az Hz => ?_
   refine se 14 ?_
   refine st1 Hz m207 1 fct39 fun w210 m210 _ => ?_
   refine wpAnyE_done (by kernel_rfl) ?_ _
   refine hK18 _ _ ?_
   replace Hz := Hz.oz [0, 4, 5, 7, 8, 9]
   refine zsr fun K20 hK20 => ?_
   refine goCh Hz (.build rfl fct27 fl44mA rfl (by dsimp only [setL, List.set] <;> rfl) .nil) fun Az Hz => ?_
   refine plz (stw Hz m210 4 fct26 fun w214 m214 _ => ?_)
   refine znl (hK20 _ _ ?_)
   refine rtd (retC (fn := Tryz.f15) Hz m214 (i := 4) rfl rfl rfl U44 rfl fct26 ?_)
   have m215 := m214.freezeR 103 rfl
   have hrw : [] ++ List.take k (L.map volD) ++ [[.v (.int .i64 (newV vo bl sz pe to place).vo), .v (.int .i64 (newV vo bl sz pe to place).bl), .v (.int .i64 (newV vo bl sz pe to place).sz), .v (.int .i64 (newV vo bl sz pe to place).pe), .ns .i64 (newV vo bl sz pe to place).place, .v (.int .i64 (newV vo bl sz pe to place).to), .v (.int .i64 (newV vo bl sz pe to place).ne), .v (.bool (newV vo bl sz pe to place).hi), .v (.int .i64 (newV vo bl sz pe to place).fl), .ns .i64 (newV vo bl sz pe to place).pins, .l 2 ((newV vo bl sz pe to place).ws.map wrD)]] ++ List.drop k (L.map volD) = (L.take k ++ [newV vo bl sz pe to place] ++ L.drop k).map volD := by simp [volD, newV]
   simp only [newV] at hrw
   erw [hrw] at m215
   exact ⟨_, _, _, _, L.take k ++ [newV vo bl sz pe to place] ++ L.drop k, _, _, rfl, hM.ins (newV_s hN) k, m215.ren [(1, 1), (2, 103)] (by decide)⟩
  refine wp_region_lit ?_
  refine goCh Hz (.loadBR m49 (i := 23) rfl rfl U38 rfl fct20 (by simp) (by dsimp only [List.drop, List.take] <;> rfl) .nil) fun Az Hz => ?_
  refine plz (ecb Hz Tryz.func50 rfl m49 (rnew_non _ vo bl sz pe to _ _ place _ _ _ _ _ _ ((m49.rd (i := 21) rfl).any) (by omega) hN) fun Az w217 Hz m218 => ?_)
  refine goCh Hz (.move rfl <| .extract rfl rfl <| .extract rfl rfl .nil) fun Az Hz => ?_
  refine plz (e_alloc Hz m218 25 fct14 rfl fun g223 Az w224 Hz m224 _ _ => ?_)
  refine plz (stw Hz m224 25 fct13 fun w225 m225 _ => ?_)
  refine gz hK10 Hz (.assign rfl .nil) fun Az Hz => ?_
  refine wsk fun K21 hK21 => ?_
  replace Hz := Hz.oz [0, 4, 5, 7, 8, 9, 10]
  refine regS Hz (.move rfl <| .neq rfl rfl .nil) fun Az Hz => ?_
  refine bc Hz 42 ?_ ?_
  rotate_left
  · intro hb _; exact absurd hb (by simp)
  clear Hz; intro _ Hz
  refine wct Hz ?_
  refine zsr fun K22 hK22 => ?_
  refine goCh Hz (.move rfl <| .build rfl fct27 fl44mA rfl (by dsimp only [setL, List.set] <;> rfl) .nil) fun Az Hz => ?_
  refine plz (stw Hz m225 20 fct26 fun w235 m235 _ => ?_)
  refine znl (hK22 _ _ ?_)
  refine rtd (retC (fn := Tryz.f15) Hz m235 (i := 20) rfl rfl rfl U44 rfl fct26 ?_)
  exact ⟨_, _, _, _, L, _, _, rfl, hM.up (by omega), m235.only [1, 2]⟩
 intro hb46 Hz; try simp only [QQ, Qax] at hb46
 refine wcf Hz ?_
 refine zss (hK6 _ _ ?_)
 refine wsk fun K23 hK23 => ?_
 replace Hz := Hz.oz [0, 4, 5, 7, 8]
 refine regS Hz (.move rfl <| .lss rfl rfl .nil) fun Az Hz => ?_
 refine bc Hz 77 ?_ ?_
 ·
  intro hb239 Hz; try simp only [QQ, Qax] at hb239
  refine wct Hz ?_
  refine zsr fun K24 hK24 => ?_
  refine goCh Hz (.build rfl fct27 fl44mA rfl (by dsimp only [setL, List.set] <;> rfl) .nil) fun Az Hz => ?_
  refine plz (stw Hz m41 20 fct26 fun w242 m242 _ => ?_)
  refine znl (hK24 _ _ ?_)
  refine rtd (retC (fn := Tryz.f15) Hz m242 (i := 20) rfl rfl rfl U44 rfl fct26 ?_)
  exact ⟨_, _, _, _, L, _, _, rfl, hM.up (by omega), m242.only [1, 2]⟩
 intro hb239 Hz; try simp only [QQ, Qax] at hb239
 revert Hz
 obtain ⟨jn, rfl⟩ : ∃ jn : Nat, j = (jn : Int) := ⟨j.toNat, by omega⟩
 intro Hz
 have hjl : jn < L.length := by omega
 obtain ⟨x, hes⟩ : ∃ x, L[jn]? = some x := ⟨_, List.getElem?_eq_getElem hjl⟩
 refine wcf Hz ?_
 refine zss (hK23 _ _ ?_)
 refine wsk fun K25 hK25 => ?_
 have hC25 : ∀ (a : Act) (w : World), (∃ (y : VolV) (e9 rl rf rn : Int) (B4 B11 B12 c8 d1 d2 d3 : Nat) (p8 p1 p2 p3 : Option Addr), VolS (n + 1) y ∧ Has 97 [(0, .pointer (some ⟨B, 0, none⟩)), (4, .pointer (some ⟨B4, 0, none⟩)), (7, .int .i64 jn), (8, .slice p8 ([] ++ (L.map volD)).length c8), (11, .pointer (some ⟨B11, 0, none⟩)), (12, .pointer (some ⟨B12, 0, none⟩))] a ∧ MemOk X w0 [(1, .box B 32 [.slice p (L.map volD).length c]), (2, .dat (.slice p (L.map volD).length c) (.l 11 (L.map volD))), (4, .box B4 44 [.int .i64 0, .int .i64 0, .int .i64 0, .int .i64 0, .slice none 0 0]), (8, .row (.slice p8 ([] ++ (L.map volD)).length c8) 51 11 ([] ++ (L.map volD))), (11, .box B11 51 [.int .i64 y.vo, .int .i64 y.bl, .int .i64 y.sz, .int .i64 y.pe, .slice p1 y.place.length d1, .int .i64 y.to, .int .i64 y.ne, .bool y.hi, .int .i64 y.fl, .slice p2 y.pins.length d2, .slice p3 (y.ws.map wrD).length d3]), (12, .box B12 44 [.int .i64 e9, .int .i64 rl, .int .i64 rf, .int .i64 rn, .slice none 0 0]), (13, .dat (.slice p1 y.place.length d1) (.ns .i64 y.place)), (14, .dat (.slice p2 y.pins.length d2) (.ns .i64 y.pins)), (15, .dat (.slice p3 (y.ws.map wrD).length d3) (.l 2 (y.ws.map wrD)))] w) → K25 a w := by
   clear Hz m41
   rintro Az w243 ⟨y, e9, rl, rf, rn, B4, B11, B12, c8, d1, d2, d3, p8, p1, p2, p3, hyS, Hz, m243⟩
   refine hK25 _ _ ?_
   refine zsr fun K26 hK26 => ?_
   refine goCh Hz (.move rfl <| .move rfl <| .loadBR m243 (i := 11) rfl rfl U51 rfl fct13 (by simp) (by dsimp only [List.drop, List.take] <;> rfl) .nil) fun Az Hz => ?_
   obtain ⟨gr251, cr251, hp251, _⟩ := m243.openC (i := 8) rfl (Nat.lt_of_le_of_lt (Nat.zero_le jn) (by simpa using hjl)); cases hp251
   refine goCh Hz (.c rfl (fun _ h_ => y_idx h_ rfl rfl U30 fct13 (jn) rfl (by simpa using hjl)) .nil) fun Az Hz => ?_
   refine plz (e_storeRW Hz m243 8 rfl (jn) (by simpa using hjl) rfl rfl rfl rfl rfl fct13 (.cons (.v _) (.cons (.v _) (.cons (.v _) (.cons (.v _) (.cons (m243.rd (i := 13) rfl) (.cons (.v _) (.cons (.v _) (.cons (.v _) (.cons (.v _) (.cons (m243.rd (i := 14) rfl) (.cons (m243.rd (i := 15) rfl) .nil))))))))))) fun w253 m253 => ?_)
   refine znl (hK26 _ _ ?_)
   replace Hz := Hz.oz [0, 4, 8, 12]
   refine zsr fun K27 hK27 => ?_
   refine goCh Hz (.move rfl <| .move rfl <| .nilCheck rfl <| .fa 0 rfl U32 .nil) fun Az Hz => ?_
   refine plz (st1 Hz m253 1 fct39 fun w263 m263 _ => ?_)
   refine znl (hK27 _ _ ?_)
   replace Hz := Hz.oz [4, 12]
   refine zsr fun K28 hK28 => ?_
   refine goCh Hz (.loadBR m263 (i := 12) rfl rfl U44 rfl fct26 (by simp) (by dsimp only [List.drop, List.take] <;> rfl) .nil) fun Az Hz => ?_
   refine plz (stw Hz m263 4 fct26 fun w267 m267 _ => ?_)
   refine znl (hK28 _ _ ?_)
   refine rtd (retC (fn := Tryz.f15) Hz m267 (i := 4) rfl rfl rfl U44 rfl fct26 ?_)
   have m268 := m267.freezeR 8 rfl
   have hrw : ([] ++ (L.map volD)).set jn [.v (.int .i64 y.vo), .v (.int .i64 y.bl), .v (.int .i64 y.sz), .v (.int .i64 y.pe), .ns .i64 y.place, .v (.int .i64 y.to), .v (.int .i64 y.ne), .v (.bool y.hi), .v (.int .i64 y.fl), .ns .i64 y.pins, .l 2 (y.ws.map wrD)] = (L.set jn y).map volD := by rw [List.nil_append, List.map_set]; rfl
   have hln : ([] ++ (L.map volD)).length = ((L.set jn y).map volD).length := by simp
   rw [hrw, hln] at m268
   exact ⟨_, _, _, _, L.set jn y, _, _, rfl, hM.set hyS jn, m268.ren [(1, 1), (2, 8)] (by decide)⟩
 obtain ⟨gr270, cr270, hp270, m270⟩ := m41.openC (i := 24) rfl (Nat.lt_of_le_of_lt (Nat.zero_le (jn)) (by simpa using hjl))
 revert Hz
 cases hp270
 intro Hz
 obtain ⟨vs271, hc271, hR271⟩ := m270.eltC (i := 24) rfl (jn) (r := [.v (.int .i64 x.vo), .v (.int .i64 x.bl), .v (.int .i64 x.sz), .v (.int .i64 x.pe), .ns .i64 x.place, .v (.int .i64 x.to), .v (.int .i64 x.ne), .v (.bool x.hi), .v (.int .i64 x.fl), .ns .i64 x.pins, .l 2 (x.ws.map wrD)]) (by simpa using volD_get hes)
 revert Hz
 rcases hR271 with _ | ⟨hd271_0, _ | ⟨hd271_1, _ | ⟨hd271_2, _ | ⟨hd271_3, _ | ⟨hd271_4, _ | ⟨hd271_5, _ | ⟨hd271_6, _ | ⟨hd271_7, _ | ⟨hd271_8, _ | ⟨hd271_9, _ | ⟨hd271_10, _ | _⟩⟩⟩⟩⟩⟩⟩⟩⟩⟩⟩
 obtain rfl := hd271_0.v_out
 clear hd271_0
 obtain rfl := hd271_1.v_out
 clear hd271_1
 obtain rfl := hd271_2.v_out
 clear hd271_2
 obtain rfl := hd271_3.v_out
 clear hd271_3
 obtain ⟨p272, c272, hv272, hw272⟩ := hd271_4.ns_shape; subst hv272
 intro Hz
 have m272 := m270.dat 25 rfl (hd271_4.cast (fun _ h => h)); clear m270 hd271_4
 revert Hz
 obtain rfl := hd271_5.v_out
 clear hd271_5
 obtain rfl := hd271_6.v_out
 clear hd271_6
 obtain rfl := hd271_7.v_out
 clear hd271_7
 obtain rfl := hd271_8.v_out
 clear hd271_8
 obtain ⟨p273, c273, hv273, hw273⟩ := hd271_9.ns_shape; subst hv273
 intro Hz
 have m273 := m272.dat 26 rfl (hd271_9.cast (fun _ h => (free_add rfl h))); clear m272 hd271_9
 revert Hz
 obtain ⟨p274, c274, hv274, hw274⟩ := hd271_10.l_shape; subst hv274
 intro Hz
 have m274 := m273.dat 27 rfl (hd271_10.cast (fun _ h => (free_add rfl (free_add rfl h)))); clear m273 hd271_10
 have m275 := m274.oz [1, 2, 20, 21, 22, 23, 24, 25, 26, 27]
 refine region_p 5 (B := [(1, _), (2, _), (20, _), (21, _), (22, _), (23, _), (24, _), (25, _), (26, _), (27, _)]) (m275.to ⟨il, il, il, il, il, il, il, il, il, il, trivial⟩) m275 (by kernel_rfl) (fun w276 hP276 m276 => ?_); clear m275
 refine goR hP276 [0, 1, 2, 3, 4] [3, 4] 5 0 31 Hz (m276.to ⟨il, il, il, il, il, il, il, il, il, il, trivial⟩) (.move rfl <| .move rfl <| .p (fun _ _ h_ => y_idx h_ rfl rfl U30 fct13 (jn) rfl (by simpa using hjl)) <| .c (fun _ hW _ h_ => y_loadRC h_ hW (i := 24) rfl (jn) hc271 rfl U51 rfl fct13) <| .loadBR hh (i := 23) rfl rfl U38 rfl fct20 (by simp) (by dsimp only [List.drop, List.take] <;> rfl) .nil) fun Az Hz => ?_
 refine dth 5 9 10 ?_ ?_ ?_
 ·
  refine ecl Hz Tryz.func40 rfl (rDoAny _ x n (hM.2 _ (List.mem_of_getElem? hes)) hn items _ _ _ _ _ _ _ _ _ _ _ _ _ _ _ _ _ _ _ _ (by omega) (fun e he => itok (hii e he).1) (fun e he => (hii e he).2) (m276.into [(1, 25), (2, 26), (3, 27), (4, 22)] (by decide) rfl)) ?_
  rintro e w282 ⟨y, e9, rl, rf, rn, p1282, p2282, p3282, d1282, d2282, d3282, rfl, hyo, hyS, hm282⟩
  have mx282 := m276.back hm282 [(28, 1), (29, 2), (30, 3)] (by decide); clear hm282 m276
  have m282 := mx282.oz [28, 29, 30, 1, 2, 20, 21, 23, 24]
  refine ⟨_, rfl, ?_⟩; intro Az Hz
  refine ⟨fun h => (Bool.false_ne_true (h.symm.trans (by rfl))).elim, ?_⟩
  refine goB hP276 [6, 7, 8] 3 63 511 Hz (.move rfl <| .extract rfl rfl <| .extract rfl rfl .nil) fun Az Hz => ?_
  refine dtw 9 10 ?_ ?_
  ·
   refine e_alloc Hz m282 31 fct14 rfl fun g287 Az w288 Hz m288 _ _ => ?_
   refine ⟨fun h => (Bool.false_ne_true (h.symm.trans (by rfl))).elim, ?_⟩
   refine se 10 ?_
   refine e_alloc Hz m288 32 fct27 rfl fun g289 Az w290 Hz m290 _ _ => ?_
   refine se 11 ?_
   refine stw Hz m290 31 fct13 fun w291 m291 _ => ?_
   refine se 12 ?_
   refine stw Hz m291 32 fct26 fun w292 m292 _ => ?_
   refine wpAnyE_done (by kernel_rfl) ?_ _
   have m293 := m292.closeC 24 rfl
   show K25 _ _
   exact hC25 _ _ ⟨y, _, _, _, _, _, _, _, _, _, _, _, _, _, _, _, hyS, Hz.only [0, 4, 7, 8, 11, 12], m293.ren [(1, 1), (2, 2), (4, 20), (8, 24), (11, 31), (12, 32), (13, 28), (14, 29), (15, 30)] (by decide)⟩
  refine e_alloc Hz m282 31 fct27 rfl fun g294 Az w295 Hz m295 _ _ => ?_
  refine ⟨fun h => (Bool.false_ne_true (h.symm.trans (by rfl))).elim, ?_⟩
  refine se 9 ?_
  refine e_alloc Hz m295 32 fct14 rfl fun g296 Az w297 Hz m297 _ _ => ?_
  refine se 11 ?_
  refine stw Hz m297 32 fct13 fun w298 m298 _ => ?_
  refine se 12 ?_
  refine stw Hz m298 31 fct26 fun w299 m299 _ => ?_
  refine wpAnyE_done (by kernel_rfl) ?_ _
  have m300 := m299.closeC 24 rfl
  show K25 _ _
  exact hC25 _ _ ⟨y, _, _, _, _, _, _, _, _, _, _, _, _, _, _, _, hyS, Hz.only [0, 4, 7, 8, 11, 12], m300.ren [(1, 1), (2, 2), (4, 20), (8, 24), (11, 32), (12, 31), (13, 28), (14, 29), (15, 30)] (by decide)⟩
 ·
  refine e_alloc Hz m276 28 fct14 rfl fun g301 Az w302 Hz m302 _ _ => ?_
  refine ⟨fun _ => (m302.to ⟨il, il, il, il, il, il, il, il, il, il, trivial⟩), ?_⟩
  refine dtw 5 10 ?_ ?_
  ·
   refine ecl Hz Tryz.func40 rfl (rDoAny _ x n (hM.2 _ (List.mem_of_getElem? hes)) hn items _ _ _ _ _ _ _ _ _ _ _ _ _ _ _ _ _ _ _ _ (by omega) (fun e he => itok (hii e he).1) (fun e he => (hii e he).2) (m302.into [(1, 25), (2, 26), (3, 27), (4, 22)] (by decide) rfl)) ?_
   rintro e w303 ⟨y, e9, rl, rf, rn, p1303, p2303, p3303, d1303, d2303, d3303, rfl, hyo, hyS, hm303⟩
   have mx303 := m302.back hm303 [(29, 1), (30, 2), (31, 3)] (by decide); clear hm303 m302
   have m303 := mx303.oz [29, 30, 31, 1, 2, 20, 21, 23, 24, 28]
   refine ⟨_, rfl, ?_⟩; intro Az Hz
   refine ⟨fun h => (Bool.false_ne_true (h.symm.trans (by rfl))).elim, ?_⟩
   refine goB hP276 [6, 7, 8] 3 575 1023 Hz (.move rfl <| .extract rfl rfl <| .extract rfl rfl .nil) fun Az Hz => ?_
   refine se 10 ?_
   refine e_alloc Hz m303 32 fct27 rfl fun g308 Az w309 Hz m309 _ _ => ?_
   refine se 11 ?_
   refine stw Hz m309 28 fct13 fun w310 m310 _ => ?_
   refine se 12 ?_
   refine stw Hz m310 32 fct26 fun w311 m311 _ => ?_
   refine wpAnyE_done (by kernel_rfl) ?_ _
   have m312 := m311.closeC 24 rfl
   show K25 _ _
   exact hC25 _ _ ⟨y, _, _, _, _, _, _, _, _, _, _, _, _, _, _, _, hyS, Hz.only [0, 4, 7, 8, 11, 12], m312.ren [(1, 1), (2, 2), (4, 20), (8, 24), (11, 28), (12, 32), (13, 29), (14, 30), (15, 31)] (by decide)⟩
  refine e_alloc Hz m302 29 fct27 rfl fun g313 Az w314 Hz m314 _ _ => ?_
  refine ⟨fun _ => (m314.to ⟨il, il, il, il, il, il, il, il, il, il, trivial⟩), ?_⟩
  refine se 5 ?_
  refine ecl Hz Tryz.func40 rfl (rDoAny _ x n (hM.2 _ (List.mem_of_getElem? hes)) hn items _ _ _ _ _ _ _ _ _ _ _ _ _ _ _ _ _ _ _ _ (by omega) (fun e he => itok (hii e he).1) (fun e he => (hii e he).2) (m314.into [(1, 25), (2, 26), (3, 27), (4, 22)] (by decide) rfl)) ?_
  rintro e w315 ⟨y, e9, rl, rf, rn, p1315, p2315, p3315, d1315, d2315, d3315, rfl, hyo, hyS, hm315⟩
  have mx315 := m314.back hm315 [(30, 1), (31, 2), (32, 3)] (by decide); clear hm315 m314
  have m315 := mx315.oz [30, 31, 32, 1, 2, 20, 21, 23, 24, 28, 29]
  refine ⟨_, rfl, ?_⟩; intro Az Hz
  refine goB hP276 [6, 7, 8] 3 1599 2047 Hz (.move rfl <| .extract rfl rfl <| .extract rfl rfl .nil) fun Az Hz => ?_
  refine se 11 ?_
  refine stw Hz m315 28 fct13 fun w320 m320 _ => ?_
  refine se 12 ?_
  refine stw Hz m320 29 fct26 fun w321 m321 _ => ?_
  refine wpAnyE_done (by kernel_rfl) ?_ _
  have m322 := m321.closeC 24 rfl
  show K25 _ _
  exact hC25 _ _ ⟨y, _, _, _, _, _, _, _, _, _, _, _, _, _, _, _, hyS, Hz.only [0, 4, 7, 8, 11, 12], m322.ren [(1, 1), (2, 2), (4, 20), (8, 24), (11, 28), (12, 29), (13, 30), (14, 31), (15, 32)] (by decide)⟩
 refine e_alloc Hz m276 28 fct27 rfl fun g323 Az w324 Hz m324 _ _ => ?_
 refine ⟨fun _ => (m324.to ⟨il, il, il, il, il, il, il, il, il, il, trivial⟩), ?_⟩
 refine dtw 5 9 ?_ ?_
 ·
  refine ecl Hz Tryz.func40 rfl (rDoAny _ x n (hM.2 _ (List.mem_of_getElem? hes)) hn items _ _ _ _ _ _ _ _ _ _ _ _ _ _ _ _ _ _ _ _ (by omega) (fun e he => itok (hii e he).1) (fun e he => (hii e he).2) (m324.into [(1, 25), (2, 26), (3, 27), (4, 22)] (by decide) rfl)) ?_
  rintro e w325 ⟨y, e9, rl, rf, rn, p1325, p2325, p3325, d1325, d2325, d3325, rfl, hyo, hyS, hm325⟩
  have mx325 := m324.back hm325 [(29, 1), (30, 2), (31, 3)] (by decide); clear hm325 m324
  have m325 := mx325.oz [29, 30, 31, 1, 2, 20, 21, 23, 24, 28]
  refine ⟨_, rfl, ?_⟩; intro Az Hz
  refine ⟨fun h => (Bool.false_ne_true (h.symm.trans (by rfl))).elim, ?_⟩
  refine goB hP276 [6, 7, 8] 3 1087 1535 Hz (.move rfl <| .extract rfl rfl <| .extract rfl rfl .nil) fun Az Hz => ?_
  refine se 9 ?_
  refine e_alloc Hz m325 32 fct14 rfl fun g330 Az w331 Hz m331 _ _ => ?_
  refine se 11 ?_
  refine stw Hz m331 32 fct13 fun w332 m332 _ => ?_
  refine se 12 ?_
  refine stw Hz m332 28 fct26 fun w333 m333 _ => ?_
  refine wpAnyE_done (by kernel_rfl) ?_ _
  have m334 := m333.closeC 24 rfl
  show K25 _ _
  exact hC25 _ _ ⟨y, _, _, _, _, _, _, _, _, _, _, _, _, _, _, _, hyS, Hz.only [0, 4, 7, 8, 11, 12], m334.ren [(1, 1), (2, 2), (4, 20), (8, 24), (11, 32), (12, 28), (13, 29), (14, 30), (15, 31)] (by decide)⟩
 refine e_alloc Hz m324 29 fct14 rfl fun g335 Az w336 Hz m336 _ _ => ?_
 refine ⟨fun _ => (m336.to ⟨il, il, il, il, il, il, il, il, il, il, trivial⟩), ?_⟩
 refine se 5 ?_
 refine ecl Hz Tryz.func40 rfl (rDoAny _ x n (hM.2 _ (List.mem_of_getElem? hes)) hn items _ _ _ _ _ _ _ _ _ _ _ _ _ _ _ _ _ _ _ _ (by omega) (fun e he => itok (hii e he).1) (fun e he => (hii e he).2) (m336.into [(1, 25), (2, 26), (3, 27), (4, 22)] (by decide) rfl)) ?_
 rintro e w337 ⟨y, e9, rl, rf, rn, p1337, p2337, p3337, d1337, d2337, d3337, rfl, hyo, hyS, hm337⟩
 have mx337 := m336.back hm337 [(30, 1), (31, 2), (32, 3)] (by decide); clear hm337 m336
 have m337 := mx337.oz [30, 31, 32, 1, 2, 20, 21, 23, 24, 28, 29]
 refine ⟨_, rfl, ?_⟩; intro Az Hz
 refine goB hP276 [6, 7, 8] 3 1599 2047 Hz (.move rfl <| .extract rfl rfl <| .extract rfl rfl .nil) fun Az Hz => ?_
 refine se 11 ?_
 refine stw Hz m337 29 fct13 fun w342 m342 _ => ?_
 refine se 12 ?_
 refine stw Hz m342 28 fct26 fun w343 m343 _ => ?_
 refine wpAnyE_done (by kernel_rfl) ?_ _
 have m344 := m343.closeC 24 rfl
 show K25 _ _
 exact hC25 _ _ ⟨y, _, _, _, _, _, _, _, _, _, _, _, _, _, _, _, hyS, Hz.only [0, 4, 7, 8, 11, 12], m344.ren [(1, 1), (2, 2), (4, 20), (8, 24), (11, 29), (12, 28), (13, 30), (14, 31), (15, 32)] (by decide)⟩
end
section
def encF : Nat → Nat → List Int
 | 0, n => [(n : Int)]
 | f + 1, n => if n < 128 then [(n : Int)] else ((n % 128 + 128 : Nat) : Int) :: encF f (n / 128)
def enc (n : Int) : List Int := encF 9 n.toNat
def encs (l : List Int) : List Int := l.flatMap enc
theorem or128 (y : Nat) : bits .or .u8 ((y : Int) % 256) 128 = ((y % 128 + 128 : Nat) : Int) := by
 have h : ∀ z : Fin 256, bits .or .u8 ((z.val : Nat) : Int) 128 = ((z.val % 128 + 128 : Nat) : Int) := by decide +kernel
 have := h ⟨y % 256, by omega⟩
 simp only at this
 rw [show ((y : Int) % 256) = ((y % 256 : Nat) : Int) by omega, this]
 omega
theorem encF_len : ∀ (f n : Nat), (encF f n).length ≤ f + 1 ∧ 1 ≤ (encF f n).length
 | 0, n => by simp [encF]
 | f + 1, n => by
   unfold encF
   have := encF_len f (n / 128)
   split <;> simp <;> omega
theorem enc_len (n : Int) : (enc n).length ≤ 10 ∧ 1 ≤ (enc n).length := encF_len 9 _
theorem encs_len : ∀ l : List Int, (encs l).length ≤ 10 * l.length
 | [] => by simp [encs]
 | a :: l => by
   have h1 := (enc_len a).1
   have h2 := encs_len l
   simp only [encs, List.flatMap_cons, List.length_append, List.length_cons] at h2 ⊢
   omega
theorem encs_snoc (l : List Int) (k : Nat) (h : k < l.length) : encs (l.take (k + 1)) = encs (l.take k) ++ enc (l.getD k 0) := by
 rw [List.take_succ_eq_append_getElem h]
 simp only [encs, List.flatMap_append, List.flatMap_cons, List.flatMap_nil, List.append_nil, List.getD, List.getElem?_eq_getElem h, Option.getD_some]
theorem len_take_le (l : List Int) (k : Nat) : (l.take k).length ≤ k := List.length_take_le _ _
set_option maxRecDepth 100000 in
set_option maxHeartbeats 2000000 in
theorem put_any (v : Value) (ns : List Int) (w : World) (hv : IsNums .u64 w v ns) (hb : ∀ j, j < ns.length → 0 ≤ ns.getD j 0 ∧ ns.getD j 0 ≤ 18446744073709551615) (hl : ns.length ≤ 1000) :
   Calls Tryz.prog 104 #[v] w fun e w' => ∃ u, e = .returned u ∧ w'.ownsRow w.heap.size 5 1 u (encs ns).length ((encs ns).map (Value.int .u8)) ∧ Below w.heap.size w w' := by
 obtain ⟨p, c, rfl, h⟩ := hv
 have H := Lib.hid h
 have HB := Lib.hid hb
 clear h hb
 go_enter Tryz.func104, Tryz.ntmps104
 go_wp2
 go_loopw [3, 8] (fun u i wr => ∃ k : Nat, k ≤ ns.length ∧ i = .int .i64 k ∧ wr.ownsRow w.heap.size 5 1 u (encs (ns.take k)).length ((encs (ns.take k)).map (Value.int .u8)) ∧ Below w.heap.size w wr) (fun _ i _ => ns.length - (intOf i).toNat)
 case atStart => exact ⟨0, Nat.zero_le _, rfl, World.ownsRow_nil _ _ _ _, Below.refl _ _⟩
 case round =>
   obtain ⟨k, hk, rfl, hown, hbel⟩ := hrel
   by_cases hlt : k < ns.length
   · obtain h0 | ⟨b, off, rfl, hblk, hcell⟩ := H.out
     · omega
     have hc : wr.cell? ⟨b, off + k, none⟩ = some (.int .u64 (ns.getD k 0)) := by rw [hbel.cell hblk]; exact hcell k hlt
     obtain ⟨x0, x1⟩ := HB.out k hlt
     obtain ⟨x, hx⟩ : ∃ x : Nat, ns.getD k 0 = (x : Int) := ⟨(ns.getD k 0).toNat, by omega⟩
     rw [hx] at hc x0 x1
     have HX := Lib.hid hx
     clear hcell hx
     have hlen := encs_len (ns.take k)
     have hlt2 := len_take_le ns k
     generalize hN : (encs (ns.take k)).length = N at hown hlen
     have HN := Lib.hid hN
     clear hN
     have hbz := hbel.size
     obtain ⟨wo, rfl⟩ : ∃ wo : World, wo = wr := ⟨_, rfl⟩
     go_wp2
     go_loopw [3, 5] (fun u y wr => ∃ (f n : Nat) (dn : List Int), y = .int .u64 (n : Int) ∧ n < 128 ^ (f + 1) ∧ (n : Int) ≤ 18446744073709551615 ∧ dn ++ encF f n = enc x ∧ wr.ownsRow w.heap.size 5 1 u (N + dn.length) ((encs (ns.take k) ++ dn).map (Value.int .u8)) ∧ Below w.heap.size w wr) (fun _ y _ => (intOf y).toNat)
     case atStart => exact ⟨9, x, [], rfl, by omega, by omega, rfl, by simpa using hown, hbel⟩
     case round =>
       obtain ⟨f, n, dn, rfl, hn1, hn2, hdn, hown2, hbel2⟩ := hrel
       have hdl : dn.length ≤ 10 := by
         have h1 := (enc_len x).1
         rw [← hdn] at h1
         simp at h1; omega
       have hsz2 := hbel2.size
       have HD := Lib.hid hdn
       have HP := Lib.hid hn1
       clear hdn hn1
       have ho := or128 n
       by_cases hge : 128 ≤ n
       · go_wp2_with (at_builtin; refine wpList_app1 rfl _ _ 22 rfl w.heap.size 5 .u8 1 Tryz.underlying22 info_u8 (by omega) _ _ _ rfl hown2 _ 1 rfl (by omega) hsz2 ?_; intro v' w' hown' hb')
         rcases f with _ | f
         · exfalso; have := HP.out; omega
         go_roundw
         case rel =>
           refine ⟨f, n / 128, dn ++ [((n % 128 + 128 : Nat) : Int)], by simp, ?_, by omega, ?_, ?_, hbel2.trans hb'⟩
           · have := HP.out
             rw [Nat.pow_succ] at this
             exact Nat.div_lt_of_lt_mul (by rw [Nat.mul_comm]; exact this)
           · rw [← HD.out, encF, if_neg (by omega)]; simp
           rw [show N + (dn ++ [((n % 128 + 128 : Nat) : Int)]).length = N + dn.length + 1 by simp; omega]
           simpa using hown'
         case measure => simp [intOf]; omega
       have hen : encF f n = [(n : Int)] := by cases f <;> simp [encF]; omega
       have HE := Lib.hid hen
       clear hen ho
       go_wp2_with (at_builtin; refine wpList_app1 rfl _ _ 22 rfl w.heap.size 5 .u8 1 Tryz.underlying22 info_u8 (by omega) _ _ _ rfl hown2 _ 1 rfl (by omega) hsz2 ?_; intro v' w' hown' hb')
       have hd2 := HD.out
       rw [HE.out] at hd2
       go_roundw
       case rel =>
         refine ⟨k + 1, by omega, by go_num, ?_, hbel2.trans hb'⟩
         rw [encs_snoc _ _ hlt, HX.out, ← hd2, List.length_append, HN.out, List.length_append]
         rw [show N + (dn.length + [(n : Int)].length) = N + dn.length + 1 by simp; omega]
         simpa using hown'
       case measure => simp [intOf]; omega
   obtain rfl : k = ns.length := by omega
   rw [List.take_length] at hown
   go_wp2
   go_ret
   exact ⟨_, rfl, hown, hbel⟩
end
section
set_option maxRecDepth 100000 in
set_option maxHeartbeats 2000000 in
theorem grow_nil (n : Nat) (w : World) (hn : n ≤ 1000000) :
   Calls Tryz.prog 116 #[.slice none 0 0, .int .i64 n] w fun e w' => ∃ u, e = .returned u ∧ w'.ownsRow w.heap.size 5 1 u 0 [] ∧ Below w.heap.size w w' := by
 by_cases h0 : n = 0
 · subst h0
   go_enter Tryz.func116, Tryz.ntmps116
   go_wp2
   go_ret
   exact ⟨_, rfl, World.ownsRow_nil _ _ _ _, Below.refl _ _⟩
 obtain ⟨i0, hi, hz0, hz1, hz2⟩ := info_parts info_u8
 have hbn : n * i0.bytes ≤ 140737488355328 := by rw [hz2]; omega
 have hrz : ∀ ty, (Builtin.append_ #[22, 3] ty #[.slice none 0 0, .int .i64 (n : Int)]).run Tryz.prog w =
     .ok (.slice (some ⟨w.heap.size, 0, none⟩) n (grownCap w n 0 5)) (w.drew.alloc (.cells (#[] ++ Builtin.zeroCells (Value.int .u8 0).cells n ++ Builtin.zeroCells (Value.int .u8 0).cells (grownCap w n 0 5 - n)) 5)) := fun ty => by
   have h := Lib.run_append_grow_zeros w 22 3 ty 5 i0 (.int .u8 0) .i64 .i64 Tryz.underlying22 Tryz.underlying3 hi hz0 none 0 0 [] (run_firstCells_none w.drew i0.size 0 0 0) n (by omega) (by omega) (by omega) (by omega) (by omega)
     (by rw [Nat.zero_add]; exact growslice_fits (by omega) hbn)
   rw [Nat.zero_add] at h
   exact h
 have hG := grownCap_ge w n 0 5
 have hM := grownCap_le_maxLen w n 0 5 (by unfold maxLen; omega)
 generalize grownCap w n 0 5 = G at hrz hG hM
 have hown : (w.drew.alloc (.cells (#[] ++ Builtin.zeroCells (Value.int .u8 0).cells n ++ Builtin.zeroCells (Value.int .u8 0).cells (G - n)) 5)).ownsRow w.heap.size 5 1 (.slice (some ⟨w.heap.size, 0, none⟩) 0 G) 0 [] := by
   refine World.ownsRow_made w.drew _ G (Nat.le_refl _) hM ?_
   have h1 : (Value.int .u8 0).cells.size = 1 := rfl
   simp [size_zeroCells, h1]
   omega
 have hbel : Below w.heap.size w (w.drew.alloc (.cells (#[] ++ Builtin.zeroCells (Value.int .u8 0).cells n ++ Builtin.zeroCells (Value.int .u8 0).cells (G - n)) 5)) := ((Below.refl _ w).drew).alloc (Nat.le_refl _) _
 generalize (w.drew.alloc (.cells (#[] ++ Builtin.zeroCells (Value.int .u8 0).cells n ++ Builtin.zeroCells (Value.int .u8 0).cells (G - n)) 5)) = W' at hrz hown hbel
 have HO := Lib.hid hown
 have HB := Lib.hid hbel
 clear hown hbel hi hz0 hz1 hz2
 unfold maxLen at hM
 go_enter Tryz.func116, Tryz.ntmps116
 go_wp2_with (at_builtin; refine Lib.wpList_append_run _ rfl _ _ _ _ rfl _ _ rfl rfl _ _ (hrz _) ?_)
 all_goals (go_ret; exact ⟨_, rfl, HO.out, HB.out⟩)
def IsLists (w : World) (v : Value) (ls : List (List Int)) : Prop :=
 ∃ a c, v = .slice a ls.length c ∧ (ls.length = 0 ∨ ∃ b off, a = some ⟨b, off, none⟩ ∧ b < w.heap.size ∧ ∀ j, j < ls.length → ∃ u, w.cell? ⟨b, off + j, none⟩ = some u ∧ IsNums .u8 w u (ls.getD j []))
def sumLen (ls : List (List Int)) : Nat := ls.flatten.length
theorem flatten_snoc (ls : List (List Int)) (k : Nat) (h : k < ls.length) : (ls.take (k + 1)).flatten = (ls.take k).flatten ++ ls.getD k [] := by
 rw [List.take_succ_eq_append_getElem h]; simp only [List.flatten_append, List.flatten_cons, List.flatten_nil, List.append_nil, List.getD, List.getElem?_eq_getElem h, Option.getD_some]
theorem sumLen_snoc (ls : List (List Int)) (k : Nat) (h : k < ls.length) : sumLen (ls.take (k + 1)) = sumLen (ls.take k) + (ls.getD k []).length := by
 unfold sumLen; rw [flatten_snoc _ _ h, List.length_append]
theorem sumLen_take (ls : List (List Int)) (k : Nat) : sumLen (ls.take k) ≤ sumLen ls := by
 have : ls.flatten = (ls.take k).flatten ++ (ls.drop k).flatten := by rw [← List.flatten_append, List.take_append_drop]
 unfold sumLen; rw [this]; simp
set_option maxRecDepth 100000 in
set_option maxHeartbeats 2000000 in
theorem join_any (v : Value) (ls : List (List Int)) (w : World) (hv : IsLists w v ls) (hl : ls.length ≤ 1000) (hs : sumLen ls ≤ 1000000) :
   Calls Tryz.prog 68 #[v] w fun e w' => ∃ u, e = .returned u ∧ w'.ownsRow w.heap.size 5 1 u ls.flatten.length (ls.flatten.map (Value.int .u8)) ∧ Below w.heap.size w w' := by
 obtain ⟨p, c, rfl, h⟩ := hv
 have H := Lib.hid h
 clear h
 go_enter Tryz.func68, Tryz.ntmps68
 go_wp2
 go_loop [3, 11] (fun n i => ∃ k : Nat, k ≤ ls.length ∧ i = .int .i64 k ∧ n = .int .i64 (sumLen (ls.take k) : Nat)) (fun _ i => ls.length - (intOf i).toNat)
 case atStart => exact ⟨0, Nat.zero_le _, rfl, rfl⟩
 case round =>
   obtain ⟨k, hk, rfl, rfl⟩ := hrel
   have hst := sumLen_take ls k
   obtain ⟨S0, hS0⟩ : ∃ S, sumLen (ls.take k) = S := ⟨_, rfl⟩
   by_cases hlt : k < ls.length
   · obtain h0 | ⟨b, off, rfl, hblk, hcell⟩ := H.out
     · omega
     obtain ⟨u, hc, pu, cu, rfl, -⟩ := hcell k hlt
     have hsn := sumLen_snoc ls k hlt
     obtain ⟨L, hL⟩ : ∃ L, (ls.getD k []).length = L := ⟨_, rfl⟩
     rw [hL] at hsn hc
     have hst2 := sumLen_take ls (k + 1)
     rw [hsn] at hst2
     rw [hS0] at hst hsn hst2 ⊢
     have HS := Lib.hid hsn
     have H0 := Lib.hid hS0
     have H1 := Lib.hid hL
     clear hsn hS0 hcell hL
     go_wp2
     go_round
     case rel => exact ⟨k + 1, by omega, by go_num, by rw [HS.out, Int.natCast_add]⟩
     case measure => simp [intOf]; omega
   obtain rfl : k = ls.length := by omega
   rw [List.take_length] at hst ⊢
   clear hS0
   go_wp2_with fail
   refine (grow_nil (sumLen ls) w hs).mono ?_
   rintro e w1 ⟨u, rfl, hown, hb⟩
   go_wp2
   go_loopw [6, 24] (fun u i wr => ∃ k : Nat, k ≤ ls.length ∧ i = .int .i64 k ∧ wr.ownsRow w.heap.size 5 1 u (sumLen (ls.take k)) ((ls.take k).flatten.map (Value.int .u8)) ∧ Below w.heap.size w wr) (fun _ i _ => ls.length - (intOf i).toNat)
   case atStart => exact ⟨0, Nat.zero_le _, rfl, by simpa [sumLen] using hown, hb⟩
   case round =>
     obtain ⟨k, hk, rfl, hown, hbel⟩ := hrel
     have hst := sumLen_take ls k
     by_cases hlt : k < ls.length
     · obtain h0 | ⟨b, off, rfl, hblk, hcell⟩ := H.out
       · omega
       obtain ⟨u, hc0, hu⟩ := hcell k hlt
       have hc : wr.cell? ⟨b, off + k, none⟩ = some u := by rw [hbel.cell hblk]; exact hc0
       have hu2 : IsNums .u8 wr u (ls.getD k []) := hu.below hbel (Nat.le_refl _)
       have HS := Lib.hid (sumLen_snoc ls k hlt)
       have HF := Lib.hid (flatten_snoc ls k hlt)
       have hst2 := sumLen_take ls (k + 1)
       rw [HS.out] at hst2
       have hsz := hbel.size
       have HU := Lib.hid hu2
       obtain ⟨S0, hS0⟩ : ∃ S, sumLen (ls.take k) = S := ⟨_, rfl⟩
       rw [hS0] at hst hst2 hown
       have H0 := Lib.hid hS0
       obtain ⟨L, hL⟩ : ∃ L, (ls.getD k []).length = L := ⟨_, rfl⟩
       rw [hL] at hst2
       have H1 := Lib.hid hL
       clear hcell hc0 hu hu2 hS0 hL
       go_wp2_with (at_builtin; refine wpList_appN rfl _ _ 22 rfl w.heap.size 5 .u8 1 Tryz.underlying22 info_u8 (by omega) _ _ _ rfl hown _ _ rfl HU.out (by rw [H1.out]; omega) hsz ?_; intro v' w' hown' hb')
       go_roundw
       case rel => exact ⟨k + 1, by omega, by go_num, by rw [HS.out, HF.out, H0.out, List.map_append]; exact hown', hbel.trans hb'⟩
       case measure => simp [intOf]; omega
     obtain rfl : k = ls.length := by omega
     rw [List.take_length] at hown
     go_wp2
     go_ret
     exact ⟨_, rfl, hown, hbel⟩
end
section
def NumsLt (N : Nat) (k : IntKind) (w : World) (v : Value) (zs : List Int) : Prop :=
 ∃ a c, v = .slice a zs.length c ∧ zs.length ≤ c ∧ c ≤ 9223372036854775807 ∧ (zs.length = 0 ∨ ∃ b off, a = some ⟨b, off, none⟩ ∧ b < N ∧ ∀ j, j < zs.length → w.cell? ⟨b, off + j, none⟩ = some (.int k (zs.getD j 0)))
theorem NumsLt.below {N : Nat} {k : IntKind} {w w' : World} {v : Value} {zs : List Int} (h : NumsLt N k w v zs) (hb : Below N w w') : NumsLt N k w' v zs := by
 obtain ⟨a, c, rfl, hc1, hc2, h | ⟨b, off, rfl, h1, h2⟩⟩ := h
 · exact ⟨a, c, rfl, hc1, hc2, .inl h⟩
 refine ⟨_, c, rfl, hc1, hc2, .inr ⟨b, off, rfl, h1, fun j hj => ?_⟩⟩
 rw [hb.cell (by show b < N; omega)]
 exact h2 j hj
theorem NumsLt.nums {N : Nat} {k : IntKind} {w : World} {v : Value} {zs : List Int} (h : NumsLt N k w v zs) (hN : N ≤ w.heap.size) : IsNums k w v zs := by
 obtain ⟨a, c, rfl, hc1, hc2, h | ⟨b, off, rfl, h1, h2⟩⟩ := h
 · exact ⟨a, c, rfl, .inl h⟩
 exact ⟨_, c, rfl, .inr ⟨b, off, rfl, by omega, h2⟩⟩
inductive Dec where
 | ok (n : Nat) (k : Nat)
 | err (e : Int)
def dec : Nat → Nat → List Int → Dec
 | _, _, [] => .err 21
 | acc, i, b :: r => if (i = 9 ∧ 1 < b) ∨ (0 < i ∧ b = 0) then .err 20 else
     if b < 128 then .ok (acc + (b % 128).toNat * 2 ^ (7 * i)) (i + 1) else dec (acc + (b % 128).toNat * 2 ^ (7 * i)) (i + 1) r
theorem andNot128 (b : Int) (h0 : 0 ≤ b) (h1 : b ≤ 255) : bits .andNot .u8 b 128 = b % 128 := by
 have h : ∀ z : Fin 256, bits .andNot .u8 ((z.val : Nat) : Int) 128 = ((z.val : Nat) : Int) % 128 := by decide +kernel
 have := h ⟨b.toNat, by omega⟩
 simp only at this
 rw [show ((b.toNat : Nat) : Int) = b by omega] at this
 exact this
theorem or_shift (acc k : Nat) (x : Int) (hacc : acc < 2 ^ (7 * k)) (hk : k ≤ 9) (x0 : 0 ≤ x) (hx : x ≤ 255) (h9 : k = 9 → x ≤ 1) :
   bits .or .u64 (acc : Int) (IntKind.u64.wrap (x % 128 * 2 ^ (7 * k))) = ((acc + (x % 128).toNat * 2 ^ (7 * k) : Nat) : Int) := by
 obtain ⟨y, hy⟩ : ∃ y : Nat, x % 128 = y := ⟨(x % 128).toNat, by omega⟩
 have hy1 : y < 128 := by omega
 have hy9 : k = 9 → y ≤ 1 := fun h => by have := h9 h; omega
 rw [hy]
 have hb : y * 2 ^ (7 * k) < 2 ^ 64 := by
   by_cases e : k = 9
   · subst e
     have := hy9 rfl
     have : y * 2 ^ (7 * 9) ≤ 1 * 2 ^ (7 * 9) := Nat.mul_le_mul_right _ this
     exact Nat.lt_of_le_of_lt this (by decide)
   have h1 : 2 ^ (7 * k) ≤ 2 ^ 56 := Nat.pow_le_pow_right (by decide) (by omega)
   have h2 : y * 2 ^ (7 * k) ≤ 127 * 2 ^ 56 := Nat.mul_le_mul (by omega) h1
   exact Nat.lt_of_le_of_lt h2 (by decide)
 have ha : acc < 2 ^ 64 := Nat.lt_of_lt_of_le hacc (Nat.pow_le_pow_right (by decide) (by omega))
 have hcast : ((y : Int) * 2 ^ (7 * k)) = ((y * 2 ^ (7 * k) : Nat) : Int) := by simp
 have hw : ∀ n : Int, 0 ≤ n → n < 2 ^ 64 → IntKind.u64.wrap n = n := fun n h0 h1 => by rw [IntKind.wrap_u64]; omega
 rw [hcast, hw _ (by omega) (by have : ((y * 2 ^ (7 * k) : Nat) : Int) < ((2 ^ 64 : Nat) : Int) := Int.ofNat_lt.2 hb; simpa using this)]
 have h := (bits_nat .u64 64 (by decide) hw acc (y * 2 ^ (7 * k)) ha hb).2
 rw [h]
 have h2 : 2 ^ (7 * k) * y + acc = 2 ^ (7 * k) * y ||| acc := Nat.two_pow_add_eq_or_of_lt hacc y
 rw [Nat.or_comm, Nat.mul_comm y, ← h2, Int.toNat_natCast, Nat.mul_comm, Nat.add_comm]
theorem acc_bound (acc k : Nat) (x : Int) (hacc : acc < 2 ^ (7 * k)) : acc + (x % 128).toNat * 2 ^ (7 * k) < 2 ^ (7 * (k + 1)) := by
 have h1 : (x % 128).toNat ≤ 127 := by omega
 have h2 : (x % 128).toNat * 2 ^ (7 * k) ≤ 127 * 2 ^ (7 * k) := Nat.mul_le_mul_right _ h1
 rw [show 7 * (k + 1) = 7 * k + 7 by omega, Nat.pow_add]
 omega
def IsReader (w : World) (B : Nat) (v : Value) (bs : List Int) (e : Int) : Prop :=
 w.cell? ⟨B, 0, none⟩ = some v ∧ w.cell? ⟨B, 1, none⟩ = some (.int .i64 e) ∧ w.frozen? ⟨B, 0, none⟩ = false ∧ w.frozen? ⟨B, 1, none⟩ = false ∧ NumsLt B .u8 w v bs ∧ ∀ x ∈ bs, 0 ≤ x ∧ x ≤ 255
theorem reader_shift {w : World} {B b off c k c' : Nat} {bs : List Int} {e : Int} {v : Value} {a' : Option Addr} (h0 : w.cell? ⟨B, 0, none⟩ = some v) (h1 : w.cell? ⟨B, 1, none⟩ = some (.int .i64 e)) (h2 : w.frozen? ⟨B, 0, none⟩ = false) (h3 : w.frozen? ⟨B, 1, none⟩ = false)
   (hblk : b < B) (hcell : ∀ j, j < bs.length → w.cell? ⟨b, off + j, none⟩ = some (.int .u8 (bs.getD j 0))) (hbs : ∀ x ∈ bs, 0 ≤ x ∧ x ≤ 255) (hk : k ≤ bs.length) (hc1 : bs.length - k ≤ c') (hc2 : c' ≤ 9223372036854775807) (ha : bs.length - k = 0 ∨ a' = some ⟨b, off + k, none⟩) :
   IsReader (w.setCell ⟨B, 0, none⟩ (.slice a' (bs.length - k) c')) B (.slice a' (bs.length - k) c') (bs.drop k) e := by
 refine ⟨World.cell?_setCell_same _ _ _ h0, ?_, by rw [World.frozen?_setCell]; exact h2, by rw [World.frozen?_setCell]; exact h3, ?_, fun x hx => hbs x (List.mem_of_mem_drop hx)⟩
 · rw [World.cell?_setCell_other _ _ _ _ (by simp)]; exact h1
 have hl : (bs.drop k).length = bs.length - k := by simp
 refine NumsLt.below (w := w) ⟨a', c', by rw [hl], by omega, hc2, ?_⟩ ((Below.refl B w).setCell (p := ⟨B, 0, none⟩) (Nat.le_refl _) _)
 rcases ha with ha | ha
 · left; omega
 right
 refine ⟨b, off + k, ha, hblk, fun j hj => ?_⟩
 have := hcell (k + j) (by omega)
 rw [show off + k + j = off + (k + j) by omega, this]
 simp [List.getD]
def decPost (w : World) (B : Nat) (bs : List Int) (e : Int) : Dec → Ending → World → Prop
 | .ok n k, en, w' => en = .returned (.tuple #[.int .u64 n, .int .i64 0]) ∧ ∃ v', w' = w.setCell ⟨B, 0, none⟩ v' ∧ IsReader w' B v' (bs.drop k) e
 | .err er, en, w' => en = .returned (.tuple #[.int .u64 0, .int .i64 er]) ∧ w' = w
end
end Go.Proofs.YtkehgingagggaaaGreat.K
