/- A machine of volumes: Volume and Apply. -/
import Derived.Test.YtflcgpajodfkoaaDoorVol32
import Derived.Test.YtflcgpajodfkoaaDoorVol31
import Derived.Test.YtflcgpajodfkoaaDoorG2
namespace Go.Proofs.YtflcgpajodfkoaaDoor.K
open Go.ChangeShapes Go.WideShapes Go.ChangeAt Go.RowKit
set_option linter.unusedVariables false
set_option linter.unusedSimpArgs false
theorem fl30mV : flatS Tryd.prog 30 [.int .i64 0, .int .i64 0, .int .i64 0, .int .i64 0, .slice none 0 0, .int .i64 0, .int .i64 0, .bool false, .int .i64 0, .slice none 0 0, .slice none 0 0] = true := by kernel_rfl
theorem fl90mA : flatS Tryd.prog 90 [.int .i64 0, .int .i64 0, .int .i64 0, .int .i64 0, .slice none 0 0] = true := by kernel_rfl
def volZ : VolV := ⟨0, 0, 0, 0, [], 0, 0, false, 0, [], []⟩
def newV (vo bl sz pe to : Int) (place : List Int) : VolV := ⟨vo, bl, sz, pe, place, to, 0, decide (0 < to), 0, [], []⟩
theorem newV_s {n : Nat} {vo bl sz pe to : Int} {place : List Int} (hN : NewOk vo bl sz pe to place) : VolS n (newV vo bl sz pe to place) := ⟨VolR.new hN, fun _ => rfl, Nat.zero_le _, Nat.zero_le _, fun _ h => by cases h⟩
theorem Rd.capL {S : Nat → Prop} {w : World} {p : Option Addr} {l c m : Nat} {rows : List (List D)} (h : Rd S w (.slice p l c) (.l m rows)) : rows.length ≤ c := by
 obtain ⟨pq, cq, hv, hc⟩ := h.l_shape
 injection hv with _ _ e3; omega
theorem itok {d : List Int} (h : d.length ≤ 32) : d.length ≤ 140737488351232 := by omega
theorem rnew_non (kd vo bl sz pe to at0 ix : Int) (place : List Int) (pp pi : Option Addr) (cp ni ci : Nat) (w0 : World) (h0 : Rd (fun _ => True) w0 (.slice pp place.length cp) (.ns .i64 place)) (hn : place.length ≤ 1000000) (hN : ¬ NewOk vo bl sz pe to place) :
   Calls Tryd.prog 42 #[.agg #[.int .i64 kd, .int .i64 vo, .int .i64 bl, .int .i64 sz, .int .i64 pe, .slice pp place.length cp, .int .i64 to, .int .i64 at0, .int .i64 ix, .slice pi ni ci]] w0 fun e w' => e = .returned (.tuple #[.agg #[.int .i64 0, .int .i64 0, .int .i64 0, .int .i64 0, .slice none 0 0, .int .i64 0, .int .i64 0, .bool false, .int .i64 0, .slice none 0 0, .slice none 0 0], .int .i64 23]) ∧ Below w0.heap.size w0 w' :=
 (rnew_any kd vo bl sz pe to at0 ix place pp pi cp ni ci w0 h0 hn).mono (fun _ _ h => h.elim (fun h => absurd h.1 hN) (fun h => h.2))
set_option maxRecDepth 100000
set_option maxHeartbeats 4000000
theorem rmVol (X : Cx) (B : Nat) (L : List VolV) (p : Option Addr) (c : Nat) (vo : Int) (w0 : World) (hl : L.length ≤ 1000000) (m0 : MemOk X w0 [(1, .box B 82 [.slice p (L.map volD).length c]), (2, .dat (.slice p (L.map volD).length c) (.l 11 (L.map volD)))] w0) :
   Calls Tryd.prog 38 #[.pointer (some ⟨B, 0, none⟩), .int .i64 vo] w0 fun e w' => ∃ (x : VolV) (there : Bool) (p1 p2 p3 : Option Addr) (d1 d2 d3 : Nat), e = .returned (.tuple #[.agg #[.int .i64 x.vo, .int .i64 x.bl, .int .i64 x.sz, .int .i64 x.pe, .slice p1 x.place.length d1, .int .i64 x.to, .int .i64 x.ne, .bool x.hi, .int .i64 x.fl, .slice p2 x.pins.length d2, .slice p3 (x.ws.map wrD).length d3], .bool there]) ∧ (there = true → x ∈ L) ∧ (there = false → x = volZ) ∧ MemOk X w0 [(1, .box B 82 [.slice p (L.map volD).length c]), (2, .dat (.slice p (L.map volD).length c) (.l 11 (L.map volD))), (3, .dat (.slice p1 x.place.length d1) (.ns .i64 x.place)), (4, .dat (.slice p2 x.pins.length d2) (.ns .i64 x.pins)), (5, .dat (.slice p3 (x.ws.map wrD).length d3) (.l 2 (x.ws.map wrD)))] w' := by
 refine ent2 Tryd.func38 rfl Tryd.ntmps38 fun Az Hz => ?_
 refine zsr fun K0 hK0 => ?_
 refine wpList_plain rfl (fun K hK => ?_)
 refine e_alloc Hz m0 20 fct12 rfl ?_
 clear Hz Az m0; intro g1 Az w2 Hz m2 hB2 hg2
 clear hB2 hg2
 refine hK _ _ ?_; clear hK
 refine goCh Hz (.assign rfl .nil) ?_
 clear Hz Az; intro Az Hz
 refine znl (hK0 _ _ ?_); clear hK0
 refine zsr fun K1 hK1 => ?_
 refine goCh Hz (.move rfl <| .move rfl <| .nil) ?_
 clear Hz Az; intro Az Hz
 refine wpList_plain rfl (fun K hK => ?_)
 refine e_call Hz Tryd.func57 rfl rfl rfl rfl (rfind _ _ L _ _ _ _ hl (m2.into [(1, 1), (2, 2)] (by decide) rfl)) ?_
 rintro e w8 ⟨j, rfl, hj1, hj2, hm8⟩
 have mx8 := m2.back hm8 [(1, 1), (2, 2)] (by decide); clear hm8 m2
 have m8 : MemOk _ _ [(1, _), (2, _), (20, _)] _ := mx8.only [1, 2, 20]; clear mx8
 refine ⟨_, rfl, ?_⟩; clear Hz Az; intro Az Hz
 refine hK _ _ ?_; clear hK
 refine goCh Hz (.assign rfl .nil) ?_
 clear Hz Az; intro Az Hz
 refine znl (hK1 _ _ ?_); clear hK1
 refine wp_seq_k (fun K2 hK2 => ?_)
 refine regS Hz (.move rfl <| .lss rfl rfl <| .nil) ?_
 clear Hz Az; intro Az Hz
 refine bool_cases Hz (t := 11) rfl ?_ ?_
 ·
  clear Hz; intro hb13 Hz; try simp only [QQ, Qax] at hb13
  refine wp_cond_true (Hz.ev (x := .tmp 11) rfl) ?_
  replace Hz : Has 20 [(0, _), (4, _), (5, _), (6, _)] Az := Hz.only [0, 4, 5, 6]
  refine zsr fun K3 hK3 => ?_
  refine goCh Hz (.build rfl fct12 fl30mV rfl (by dsimp only [setL, List.set] <;> rfl) .nil) ?_
  clear Hz Az; intro Az Hz
  refine wpList_plain rfl (fun K hK => ?_)
  refine e_storeW Hz m8 20 rfl rfl rfl rfl rfl fct10 ?_
  clear m8; intro w17 m17 hB17
  clear hB17
  refine hK _ _ ?_; clear hK
  refine goCh Hz (.assign rfl .nil) ?_
  clear Hz Az; intro Az Hz
  refine znl (hK3 _ _ ?_); clear hK3
  refine wp_ret ?_
  try dsimp only [Exit.then, Exit.inBlock]
  refine (retCT (fn := Tryd.f38) Hz m17 (i := 20) rfl rfl rfl rfl U30 rfl fct10 ?_)
  have mA := m17.dat 91 rfl (Rd.nilN _ _ .i64 none)
  have mB := mA.dat 92 rfl (Rd.nilN _ _ .i64 none)
  have mC := mB.dat 93 rfl (Rd.l0 none 0 2)
  exact ⟨volZ, false, _, _, _, _, _, _, rfl, (fun h => by cases h), (fun _ => rfl), mC.ren [(1, 1), (2, 2), (3, 91), (4, 92), (5, 93)] (by decide)⟩
 clear Hz; intro hb13 Hz; try simp only [QQ, Qax] at hb13
 obtain ⟨jn, rfl⟩ : ∃ jn : Nat, j = (jn : Int) := ⟨j.toNat, by omega⟩
 have hjl : jn < L.length := by omega
 obtain ⟨x, hes⟩ : ∃ x, L[jn]? = some x := ⟨_, List.getElem?_eq_getElem hjl⟩
 refine wp_cond_false (Hz.ev (x := .tmp 11) rfl) ?_
 refine zss (hK2 _ _ ?_); clear hK2
 replace Hz : Has 20 [(0, _), (4, _), (5, _), (6, _)] Az := Hz.only [0, 4, 5, 6]
 refine zsr fun K4 hK4 => ?_
 refine goCh Hz (.move rfl <| .nilCheck rfl <| .fa 0 rfl U82 <| .lb m8 1 U80 rfl rfl rfl <| .move rfl <| .nil) ?_
 clear Hz Az; intro Az Hz
 obtain ⟨b31, o31, vs31, hp31, hR31, ho31, m31⟩ := m8.openR (i := 2) rfl (jn) (r := [.v (.int .i64 x.vo), .v (.int .i64 x.bl), .v (.int .i64 x.sz), .v (.int .i64 x.pe), .ns .i64 x.place, .v (.int .i64 x.to), .v (.int .i64 x.ne), .v (.bool x.hi), .v (.int .i64 x.fl), .ns .i64 x.pins, .l 2 (x.ws.map wrD)]) (volD_get hes) 21 rfl
 cases hp31; clear m8 ho31
 rcases hR31 with _ | ⟨hd31_0, _ | ⟨hd31_1, _ | ⟨hd31_2, _ | ⟨hd31_3, _ | ⟨hd31_4, _ | ⟨hd31_5, _ | ⟨hd31_6, _ | ⟨hd31_7, _ | ⟨hd31_8, _ | ⟨hd31_9, _ | ⟨hd31_10, _ | _⟩⟩⟩⟩⟩⟩⟩⟩⟩⟩⟩
 obtain rfl := hd31_0.v_out
 clear hd31_0
 obtain rfl := hd31_1.v_out
 clear hd31_1
 obtain rfl := hd31_2.v_out
 clear hd31_2
 obtain rfl := hd31_3.v_out
 clear hd31_3
 obtain ⟨p32, c32, hv32, hc32⟩ := hd31_4.ns_shape; subst hv32
 have m32 := m31.dat 22 rfl (hd31_4.cast (fun _ h => (free_add rfl h))); clear m31 hd31_4
 obtain rfl := hd31_5.v_out
 clear hd31_5
 obtain rfl := hd31_6.v_out
 clear hd31_6
 obtain rfl := hd31_7.v_out
 clear hd31_7
 obtain rfl := hd31_8.v_out
 clear hd31_8
 obtain ⟨p33, c33, hv33, hc33⟩ := hd31_9.ns_shape; subst hv33
 have m33 := m32.dat 23 rfl (hd31_9.cast (fun _ h => (free_add rfl (free_add rfl h)))); clear m32 hd31_9
 obtain ⟨p34, c34, hv34, hc34⟩ := hd31_10.l_shape; subst hv34
 have m34 := m33.dat 24 rfl (hd31_10.cast (fun _ h => (free_add rfl (free_add rfl (free_add rfl h))))); clear m33 hd31_10
 refine goCh Hz (.c rfl (fun _ h => y_idx h rfl rfl U80 fct10 (jn) rfl (by simpa using hjl)) <| .loadCR m34 (i := 21) rfl rfl U30 rfl fct10 <| .nil) ?_
 clear Hz Az; intro Az Hz
 refine wpList_plain rfl (fun K hK => ?_)
 refine e_storeW Hz m34 20 rfl rfl rfl rfl rfl fct10 ?_
 clear m34; intro w37 m37 hB37
 clear hB37
 refine hK _ _ ?_; clear hK
 refine goCh Hz (.assign rfl .nil) ?_
 clear Hz Az; intro Az Hz
 refine znl (hK4 _ _ ?_); clear hK4
 refine wp_ret ?_
 try dsimp only [Exit.then, Exit.inBlock]
 refine (retCT (fn := Tryd.f38) Hz m37 (i := 20) rfl rfl rfl rfl U30 rfl fct10 ?_)
 exact ⟨x, true, _, _, _, _, _, _, rfl, (fun _ => List.mem_of_getElem? hes), (fun h => by cases h), m37.ren [(1, 1), (2, 2), (3, 22), (4, 23), (5, 24)] (by decide)⟩
theorem rmApply (X : Cx) (B n : Nat) (L : List VolV) (p : Option Addr) (c : Nat) (b : List Int) (pb : Option Addr) (cb : Nat) (w0 : World) (hM : MacS n L) (hn : n ≤ 800000) (hb : b.length ≤ 1000000) (hbb : BytesL b) (m0 : MemOk X w0 [(1, .box B 82 [.slice p (L.map volD).length c]), (2, .dat (.slice p (L.map volD).length c) (.l 11 (L.map volD))), (3, .dat (.slice pb b.length cb) (.ns .u8 b))] w0) :
   Calls Tryd.prog 41 #[.pointer (some ⟨B, 0, none⟩), .slice pb b.length cb] w0 fun e w' => ∃ (e9 rl rf rn : Int) (L' : List VolV) (p' : Option Addr) (c' : Nat), e = .returned (.agg #[.int .i64 e9, .int .i64 rl, .int .i64 rf, .int .i64 rn, .slice none 0 0]) ∧ MacS (n + 1) L' ∧ MemOk X w0 [(1, .box B 82 [.slice p' (L'.map volD).length c']), (2, .dat (.slice p' (L'.map volD).length c') (.l 11 (L'.map volD)))] w' := by
 refine ent2 Tryd.func41 rfl Tryd.ntmps41 fun Az Hz => ?_
 have hl : L.length ≤ 1000000 := by have := hM.1; omega
 have hlm : (L.map volD).length ≤ 1000000 := by simpa using hl
 refine zsr fun K0 hK0 => ?_
 refine wpList_plain rfl (fun K hK => ?_)
 refine e_alloc Hz m0 20 fct19 rfl ?_
 clear Hz Az m0; intro g1 Az w2 Hz m2 hB2 hg2
 clear hB2 hg2
 refine hK _ _ ?_; clear hK
 refine znl (hK0 _ _ ?_); clear hK0
 refine zsr fun K1 hK1 => ?_
 refine goCh Hz (.move rfl .nil) ?_
 clear Hz Az; intro Az Hz
 refine wpList_plain rfl (fun K hK => ?_)
 refine e_call Hz Tryd.func63 rfl rfl rfl rfl (rreadCmd _ b _ _ _ hb hbb (m2.into [(1, 3)] (by decide) rfl)) ?_
 rintro e w5 ⟨kd, vo, bl, sz, pe, to, at0, ix, place, items, pp5, cp5, pi5, ci5, er, rfl, hpl, hil, hii, hm5⟩
 have mx5 := m2.back hm5 [(21, 1), (22, 2)] (by decide); clear hm5 m2
 have m5 : MemOk _ _ [(21, _), (22, _), (1, _), (2, _), (20, _)] _ := mx5.only [21, 22, 1, 2, 20]; clear mx5
 refine ⟨_, rfl, ?_⟩; clear Hz Az; intro Az Hz
 refine hK _ _ ?_; clear hK
 refine goCh Hz (.move rfl <| .extract rfl rfl <| .extract rfl rfl <| .nil) ?_
 clear Hz Az; intro Az Hz
 refine wpList_plain rfl (fun K hK => ?_)
 refine e_alloc Hz m5 23 fct14 rfl ?_
 clear Hz Az m5; intro g10 Az w11 Hz m11 hB11 hg11
 clear hB11 hg11
 refine hK _ _ ?_; clear hK
 refine wpList_plain rfl (fun K hK => ?_)
 refine e_storeW Hz m11 23 rfl rfl rfl rfl rfl fct11 ?_
 clear m11; intro w12 m12 hB12
 clear hB12
 refine hK _ _ ?_; clear hK
 refine goCh Hz (.assign rfl .nil) ?_
 clear Hz Az; intro Az Hz
 refine znl (hK1 _ _ ?_); clear hK1
 refine wp_seq_k (fun K2 hK2 => ?_)
 replace Hz : Has 97 [(0, _), (4, _), (5, _), (6, _)] Az := Hz.only [0, 4, 5, 6]
 refine regS Hz (.move rfl <| .neq rfl rfl <| .nil) ?_
 clear Hz Az; intro Az Hz
 refine bool_cases Hz (t := 19) rfl ?_ ?_
 ·
  clear Hz; intro hb17 Hz; try simp only [QQ, Qax] at hb17
  refine wp_cond_true (Hz.ev (x := .tmp 19) rfl) ?_
  refine zsr fun K3 hK3 => ?_
  refine goCh Hz (.build rfl fct19 fl90mA rfl (by dsimp only [setL, List.set] <;> rfl) .nil) ?_
  clear Hz Az; intro Az Hz
  refine wpList_plain rfl (fun K hK => ?_)
  refine e_storeW Hz m12 20 rfl rfl rfl rfl rfl fct18 ?_
  clear m12; intro w20 m20 hB20
  clear hB20
  refine hK _ _ ?_; clear hK
  refine znl (hK3 _ _ ?_); clear hK3
  refine wp_ret ?_
  try dsimp only [Exit.then, Exit.inBlock]
  refine (retC (fn := Tryd.f41) Hz m20 (i := 20) rfl rfl rfl U90 rfl fct18 ?_)
  exact ⟨_, _, _, _, L, _, _, rfl, hM.up (by omega), m20.only [1, 2]⟩
 clear Hz; intro hb17 Hz; try simp only [QQ, Qax] at hb17
 refine wp_cond_false (Hz.ev (x := .tmp 19) rfl) ?_
 refine zss (hK2 _ _ ?_); clear hK2
 refine zsr fun K4 hK4 => ?_
 refine goCh Hz (.move rfl <| .fa 1 rfl U87 <| .lb m12 23 U3 rfl rfl rfl <| .nil) ?_
 clear Hz Az; intro Az Hz
 refine wpList_plain rfl (fun K hK => ?_)
 refine e_call Hz Tryd.func57 rfl rfl rfl rfl (rfind _ _ L _ _ _ _ hl (m12.into [(1, 1), (2, 2)] (by decide) rfl)) ?_
 rintro e w27 ⟨j, rfl, hj1, hj2, hm27⟩
 have mx27 := m12.back hm27 [(1, 1), (2, 2)] (by decide); clear hm27 m12
 have m27 : MemOk _ _ [(1, _), (2, _), (20, _), (21, _), (22, _), (23, _)] _ := mx27.only [1, 2, 20, 21, 22, 23]; clear mx27
 refine ⟨_, rfl, ?_⟩; clear Hz Az; intro Az Hz
 refine hK _ _ ?_; clear hK
 refine goCh Hz (.assign rfl .nil) ?_
 clear Hz Az; intro Az Hz
 refine znl (hK4 _ _ ?_); clear hK4
 replace Hz : Has 97 [(0, _), (4, _), (5, _), (7, _)] Az := Hz.only [0, 4, 5, 7]
 refine zsr fun K5 hK5 => ?_
 refine goCh Hz (.move rfl <| .nilCheck rfl <| .fa 0 rfl U82 <| .lb m27 1 U80 rfl rfl rfl <| .nil) ?_
 clear Hz Az; intro Az Hz
 have m39 := m27.nilR 24 30 11
 clear m27
 refine wpList_plain rfl (fun K hK => ?_)
 refine e_appR Hz m39 24 rfl rfl rfl (m39.rd (i := 2) rfl) U80 fct16 rfl rfl (by decide) (by simp; omega) rfl ?_
 clear Hz Az m39; intro p40 c40 Az w41 Hz m41
 refine hK _ _ ?_; clear hK
 refine goCh Hz (.assign rfl .nil) ?_
 clear Hz Az; intro Az Hz
 refine znl (hK5 _ _ ?_); clear hK5
 refine wp_seq_k (fun K6 hK6 => ?_)
 refine regS Hz (.fa 0 rfl U87 <| .lb m41 23 U3 rfl rfl rfl <| .eql rfl rfl <| .nil) ?_
 clear Hz Az; intro Az Hz
 refine bool_cases Hz (t := 32) rfl ?_ ?_
 ·
  clear Hz; intro hb46 Hz; try simp only [QQ, Qax] at hb46
  have hkd : kd = 1 := by simpa using hb46
  refine wp_cond_true (Hz.ev (x := .tmp 32) rfl) ?_
  refine wp_seq_k (fun K7 hK7 => ?_)
  replace Hz : Has 97 [(0, _), (4, _), (5, _), (7, _), (8, _)] Az := Hz.only [0, 4, 5, 7, 8]
  refine zsr fun K8 hK8 => ?_
  have m49 := m41.freezeR 24 rfl; clear m41
  refine goCh Hz (.move rfl <| .geq rfl rfl <| .nil) ?_
  clear Hz Az; intro Az Hz
  refine znl (hK8 _ _ ?_); clear hK8
  refine bool_cases Hz (t := 34) rfl ?_ ?_
  ·
   clear Hz; intro hb52 Hz; try simp only [QQ, Qax] at hb52
   refine wp_cond_true (Hz.ev (x := .tmp 34) rfl) ?_
   refine zsr fun K9 hK9 => ?_
   refine goCh Hz (.build rfl fct19 fl90mA rfl (by dsimp only [setL, List.set] <;> rfl) .nil) ?_
   clear Hz Az; intro Az Hz
   refine wpList_plain rfl (fun K hK => ?_)
   refine e_storeW Hz m49 20 rfl rfl rfl rfl rfl fct18 ?_
   clear m49; intro w55 m55 hB55
   clear hB55
   refine hK _ _ ?_; clear hK
   refine znl (hK9 _ _ ?_); clear hK9
   refine wp_ret ?_
   try dsimp only [Exit.then, Exit.inBlock]
   refine (retC (fn := Tryd.f41) Hz m55 (i := 20) rfl rfl rfl U90 rfl fct18 ?_)
   exact ⟨_, _, _, _, L, _, _, rfl, hM.up (by omega), m55.only [1, 2]⟩
  clear Hz; intro hb52 Hz; try simp only [QQ, Qax] at hb52
  refine wp_cond_false (Hz.ev (x := .tmp 34) rfl) ?_
  refine zss (hK7 _ _ ?_); clear hK7
  refine wp_seq_k (fun K10 hK10 => ?_)
  by_cases hN : NewOk vo bl sz pe to place
  ·
   refine wp_region_lit ?_
   refine goCh Hz (.loadBR m49 (i := 23) rfl rfl U87 rfl fct11 (by simp) (by dsimp only [List.drop, List.take] <;> rfl) .nil) ?_
   clear Hz Az; intro Az Hz
   refine wpList_plain rfl (fun K hK => ?_)
   refine e_call Hz Tryd.func42 rfl rfl rfl rfl (rnew_yes _ vo bl sz pe to _ _ place _ _ _ _ _ _ ((m49.rd (i := 21) rfl).any) (by omega) hN) ?_
   rintro e w57 ⟨p57, c57, rfl, hd57, hb57⟩
   have m58 := m49.callF 25 rfl hb57 hd57
   clear m49
   clear hb57 hd57
   refine ⟨_, rfl, ?_⟩; clear Hz Az; intro Az Hz
   refine hK _ _ ?_; clear hK
   refine goCh Hz (.move rfl <| .extract rfl rfl <| .extract rfl rfl <| .nil) ?_
   clear Hz Az; intro Az Hz
   refine wpList_plain rfl (fun K hK => ?_)
   refine e_alloc Hz m58 26 fct12 rfl ?_
   clear Hz Az m58; intro g63 Az w64 Hz m64 hB64 hg64
   clear hB64 hg64
   refine hK _ _ ?_; clear hK
   refine wpList_plain rfl (fun K hK => ?_)
   refine e_storeW Hz m64 26 rfl rfl rfl rfl rfl fct10 ?_
   clear m64; intro w65 m65 hB65
   clear hB65
   refine hK _ _ ?_; clear hK
   refine goCh Hz (.assign rfl .nil) ?_
   clear Hz Az; intro Az Hz
   refine znl (hK10 _ _ ?_); clear hK10
   refine wp_seq_k (fun K11 hK11 => ?_)
   replace Hz : Has 97 [(0, _), (4, _), (5, _), (7, _), (8, _), (9, _), (10, _)] Az := Hz.only [0, 4, 5, 7, 8, 9, 10]
   refine regS Hz (.move rfl <| .neq rfl rfl <| .nil) ?_
   clear Hz Az; intro Az Hz
   refine bool_cases Hz (t := 42) rfl ?_ ?_
   · intro hb _; exact absurd hb (by simp)
   clear Hz; intro _ Hz
   refine wp_cond_false (Hz.ev (x := .tmp 42) rfl) ?_
   refine zss (hK11 _ _ ?_); clear hK11
   refine regS Hz (.assign rfl <| .nil) ?_
   clear Hz Az; intro Az Hz
   refine wp_seq_k (fun K12 hK12 => ?_)
   refine wp_block ?_
   refine wp_loop_ghost (fun g a w => ∃ (k B4 B5 B9 c8 c9 n1 d1 n2 d2 : Nat) (p8 p9 q1 q2 : Option Addr), k ≤ (L.map volD).length ∧ g = (L.map volD).length - k ∧ Has 97 [(0, .pointer (some ⟨B, 0, none⟩)), (4, .pointer (some ⟨B4, 0, none⟩)), (5, .pointer (some ⟨B5, 0, none⟩)), (7, .int .i64 k), (8, .slice p8 (L.map volD).length c8), (9, .pointer (some ⟨B9, 0, none⟩))] a ∧ MemOk X w0 [(1, .box B 82 [.slice p (L.map volD).length c]), (2, .dat (.slice p (L.map volD).length c) (.l 11 (L.map volD))), (4, .box B4 90 [.int .i64 0, .int .i64 0, .int .i64 0, .int .i64 0, .slice none 0 0]), (5, .box B5 87 [.int .i64 kd, .int .i64 vo, .int .i64 bl, .int .i64 sz, .int .i64 pe, .slice q1 n1 d1, .int .i64 to, .int .i64 at0, .int .i64 ix, .slice q2 n2 d2]), (9, .box B9 30 [.int .i64 vo, .int .i64 bl, .int .i64 sz, .int .i64 pe, .slice p9 place.length c9, .int .i64 to, .int .i64 0, .bool (decide (0 < to)), .int .i64 0, .slice none 0 0, .slice none 0 0]), (8, .dat (.slice p8 (L.map volD).length c8) (.l 11 (L.map volD))), (10, .dat (.slice p9 place.length c9) (.ns .i64 place))] w) ((L.map volD).length) ?_ ?_
   · exact ⟨0, _, _, _, _, _, _, _, _, _, _, _, _, _, Nat.zero_le _, rfl, Hz.only [0, 4, 5, 7, 8, 9], m65.ren [(1, 1), (2, 2), (4, 20), (5, 23), (9, 26), (8, 24), (10, 25)] (by decide)⟩
   clear Hz m65
   rintro g Az w72 ⟨k, B4, B5, B9, c8, c9, n1, d1, n2, d2, p8, p9, q1, q2, hkl, hg, Hz, m72⟩
   refine wp_seq_k (fun K13 hK13 => ?_)
   refine wp_seq_k (fun K14 hK14 => ?_)
   by_cases hk : k < (L.map volD).length
   ·
    obtain ⟨z9, hes9⟩ : ∃ x, L[k]? = some x := ⟨_, List.getElem?_eq_getElem (by simpa using hk)⟩
    obtain ⟨b73, o73, vs73, hp73, hR73, ho73, m73⟩ := m72.openR (i := 8) rfl (k) (r := [.v (.int .i64 z9.vo), .v (.int .i64 z9.bl), .v (.int .i64 z9.sz), .v (.int .i64 z9.pe), .ns .i64 z9.place, .v (.int .i64 z9.to), .v (.int .i64 z9.ne), .v (.bool z9.hi), .v (.int .i64 z9.fl), .ns .i64 z9.pins, .l 2 (z9.ws.map wrD)]) (volD_get hes9) 100 rfl
    cases hp73; clear m72 ho73
    rcases hR73 with _ | ⟨hd73_0, _ | ⟨hd73_1, _ | ⟨hd73_2, _ | ⟨hd73_3, _ | ⟨hd73_4, _ | ⟨hd73_5, _ | ⟨hd73_6, _ | ⟨hd73_7, _ | ⟨hd73_8, _ | ⟨hd73_9, _ | ⟨hd73_10, _ | _⟩⟩⟩⟩⟩⟩⟩⟩⟩⟩⟩
    obtain rfl := hd73_0.v_out
    clear hd73_0
    obtain rfl := hd73_1.v_out
    clear hd73_1
    obtain rfl := hd73_2.v_out
    clear hd73_2
    obtain rfl := hd73_3.v_out
    clear hd73_3
    obtain ⟨p74, c74, hv74, hc74⟩ := hd73_4.ns_shape; subst hv74
    have m74 := m73.dat 101 rfl (hd73_4.cast (fun _ h => (free_add rfl h))); clear m73 hd73_4
    obtain rfl := hd73_5.v_out
    clear hd73_5
    obtain rfl := hd73_6.v_out
    clear hd73_6
    obtain rfl := hd73_7.v_out
    clear hd73_7
    obtain rfl := hd73_8.v_out
    clear hd73_8
    obtain ⟨p75, c75, hv75, hc75⟩ := hd73_9.ns_shape; subst hv75
    have m75 := m74.dat 102 rfl (hd73_9.cast (fun _ h => (free_add rfl (free_add rfl h)))); clear m74 hd73_9
    obtain ⟨p76, c76, hv76, hc76⟩ := hd73_10.l_shape; subst hv76
    have m76 := m75.dat 103 rfl (hd73_10.cast (fun _ h => (free_add rfl (free_add rfl (free_add rfl h))))); clear m75 hd73_10
    have m77 : MemOk _ _ [(1, _), (2, _), (4, _), (5, _), (8, _), (9, _), (10, _), (100, _), (101, _), (102, _), (103, _)] _ := m76.only [1, 2, 4, 5, 8, 9, 10, 100, 101, 102, 103]; clear m76
    refine region_p 14 (B := [(1, _), (2, _), (4, _), (5, _), (8, _), (9, _), (10, _), (100, _), (101, _), (102, _), (103, _)]) (m77.to ⟨il, il, il, il, il, il, il, il, il, il, il, trivial⟩) m77 (by kernel_rfl) (fun w78 hP78 m78 => ?_); clear m77
    refine goA hP78 [0, 1, 2, 3, 4] 5 0 31 Hz (m78.to ⟨il, il, il, il, il, il, il, il, il, il, il, trivial⟩) (.move rfl <| .move rfl <| .len rfl U80 <| .lss rfl rfl <| .move rfl <| .nil) ?_
    clear Hz Az; intro Az Hz
    refine bool_cases Hz (t := 49) rfl ?_ ?_
    rotate_left
    · intro hb _; exact absurd hb (by simpa using hk)
    clear Hz; intro _ Hz
    refine goR hP78 [5, 6, 7, 8, 9, 10, 11, 12, 13] [9, 11] 9 31 16383 Hz (m78.to ⟨il, il, il, il, il, il, il, il, il, il, il, trivial⟩) (.move rfl <| .move rfl <| .p (fun _ _ h => y_idx h rfl rfl U80 fct10 (k) rfl hk) <| .fieldAddrQ 0 rfl U30 rfl (s := 0) (by kernel_rfl) rfl <| .loadC0 hh (i := 100) rfl rfl U3 rfl <| .fa 1 rfl U87 <| .lb hh 5 U3 rfl rfl rfl <| .lss rfl rfl <| .pickT rfl rfl <| .nil) ?_
    clear Hz Az; intro Az Hz
    refine wpAnyE_done (by kernel_rfl) ?_ _
    refine hK14 _ _ ?_; clear hK14
    refine bool_cases Hz (t := 58) rfl ?_ ?_
    ·
     clear Hz; intro hb94 Hz; try simp only [QQ, Qax] at hb94
     refine wp_cond_true (Hz.ev (x := .tmp 58) rfl) ?_
     refine zss (hK13 _ _ ?_); clear hK13
     refine wp_block ?_
     replace Hz : Has 97 [(0, _), (4, _), (5, _), (7, _), (8, _), (9, _)] Az := Hz.only [0, 4, 5, 7, 8, 9]
     refine wp_region_lit ?_
     refine goCh Hz (.move rfl <| .add rfl rfl (r := ((k + 1 : Nat) : Int)) (by rw [IntWalk.i64_in _ (by omega)]; omega) <| .assign rfl <| .nil) ?_
     clear Hz Az; intro Az Hz
     refine wpList_nil ?_
     show ∃ n', n' < _ ∧ _
     exact ⟨(L.map volD).length - (k + 1), by omega, k + 1, _, _, _, _, _, _, _, _, _, _, _, _, _, by omega, rfl, Hz.only [0, 4, 5, 7, 8, 9], m78.only [1, 2, 4, 5, 9, 8, 10]⟩
    clear Hz; intro hb94 Hz; try simp only [QQ, Qax] at hb94
    refine wp_cond_false (Hz.ev (x := .tmp 58) rfl) ?_
    refine wp_exit ?_
    refine hK12 _ _ ?_; clear hK12
    refine wp_seq_k (fun K15 hK15 => ?_)
    replace Hz : Has 97 [(0, _), (4, _), (5, _), (7, _), (8, _), (9, _)] Az := Hz.only [0, 4, 5, 7, 8, 9]
    have m100 : MemOk _ _ [(1, _), (2, _), (4, _), (5, _), (8, _), (9, _), (10, _), (100, _), (101, _), (102, _), (103, _)] _ := m78.only [1, 2, 4, 5, 8, 9, 10, 100, 101, 102, 103]; clear m78
    refine region_p 14 (B := [(1, _), (2, _), (4, _), (5, _), (8, _), (9, _), (10, _), (100, _), (101, _), (102, _), (103, _)]) (m100.to ⟨il, il, il, il, il, il, il, il, il, il, il, trivial⟩) m100 (by kernel_rfl) (fun w101 hP101 m101 => ?_); clear m100
    refine goA hP101 [0, 1, 2] 3 0 7 Hz (m101.to ⟨il, il, il, il, il, il, il, il, il, il, il, trivial⟩) (.move rfl <| .move rfl <| .move rfl <| .nil) ?_
    clear Hz Az; intro Az Hz
    have hcap106 := Rd.capL (m101.rd (i := 8) rfl)
    have m105 := m101.takeR (i := 8) rfl k hkl 104 rfl; clear m101
    refine goR hP101 [3, 5, 8, 9] [5] 4 7 815 Hz (m105.to ⟨il, il, il, il, il, il, il, il, il, il, il, trivial⟩) (.p (fun _ _ h => y_sliceHn h k rfl rfl U80 fct10 rfl (Nat.le_trans hkl hcap106)) <| .loadBR hh (i := 9) rfl rfl U30 rfl fct10 (by simp) (by dsimp only [List.drop, List.take] <;> rfl) <| .move rfl <| .move rfl <| .nil) ?_
    clear Hz Az; intro Az Hz
    have m111 := m105.dropR (i := 8) rfl k hkl 105 rfl; clear m105
    refine goA hP101 [10] 1 815 1839 Hz (m111.to ⟨il, il, il, il, il, il, il, il, il, il, il, trivial⟩) (.p (fun _ _ h => y_sliceLn h k rfl rfl U80 fct10 rfl hkl) <| .nil) ?_
    clear Hz Az; intro Az Hz
    refine d_two 4 6 rfl rfl (by kernel_rfl) rfl rfl (fun K hK => ?_) (fun K hK => ?_)
    ·
     have m113 := m111.nilR 106 30 11
     clear m111
     refine e_appR Hz m113 106 rfl rfl rfl (m113.rd (i := 104) rfl) U80 fct16 rfl rfl (by decide) (by simp; omega) rfl ?_
     clear Hz Az m113; intro p114 c114 Az w115 Hz m115
     refine hK _ _ (fun _ => (m115.to ⟨il, il, il, il, il, il, il, il, il, il, il, trivial⟩)) ?_; clear hK K
     refine stepE_only 6 rfl (by kernel_rfl) rfl (fun K hK => ?_)
     refine e_litR Hz m115 107 (mm := 11) rfl (.cons rfl rfl (.cons (.v _) (.cons (.v _) (.cons (.v _) (.cons (.v _) (.cons (m115.rd (i := 10) rfl) (.cons (.v _) (.cons (.v _) (.cons (.v _) (.cons (.v _) (.cons (Rd.nilN _ _ .i64 _) (.cons (.l0 _ _ 2) .nil))))))))))) <| .nil) U80 fct16 rfl rfl rfl rfl rfl ?_
     clear Hz Az m115; intro g116 Az w117 Hz m117
     refine hK _ _ (m117.to ⟨il, il, il, il, il, il, il, il, il, il, il, trivial⟩) ?_; clear hK K
     have m119 := m117.freezeR 107 rfl; clear m117
     refine stepE_only 7 rfl (by kernel_rfl) rfl (fun K hK => ?_)
     refine e_appR Hz m119 106 rfl rfl rfl (m119.rd (i := 107) rfl) U80 fct16 rfl rfl (by decide) (by simp; omega) rfl ?_
     clear Hz Az m119; intro p118 c118 Az w120 Hz m120
     refine hK _ _ (m120.to ⟨il, il, il, il, il, il, il, il, il, il, il, trivial⟩) ?_; clear hK K
     refine stepE_only 11 rfl (by kernel_rfl) rfl (fun K hK => ?_)
     refine e_appR Hz m120 106 rfl rfl rfl (m120.rd (i := 105) rfl) U80 fct16 rfl rfl (by decide) (by simp; omega) rfl ?_
     clear Hz Az m120; intro p121 c121 Az w122 Hz m122
     refine hK _ _ (m122.to ⟨il, il, il, il, il, il, il, il, il, il, il, trivial⟩) ?_; clear hK K
     refine goA hP101 [12, 13] 2 4095 16383 Hz (m122.to ⟨il, il, il, il, il, il, il, il, il, il, il, trivial⟩) (.nilCheck rfl <| .fa 0 rfl U82 <| .nil) ?_
     clear Hz Az; intro Az Hz
     refine stepE_end 14 rfl (by kernel_rfl) rfl (by rfl) (fun K hK => ?_)
     refine e_store1 Hz m122 1 rfl rfl rfl rfl rfl fct17 (by dsimp only [List.set] <;> rfl) ?_
     clear m122; intro w125 m125 hB125
     clear hB125
     refine hK _ _ ?_; clear hK
     refine wpAnyE_done (by kernel_rfl) ?_ _
     refine hK15 _ _ ?_; clear hK15
     replace Hz : Has 97 [(0, _), (4, _), (5, _), (7, _), (8, _), (9, _)] Az := Hz.only [0, 4, 5, 7, 8, 9]
     refine zsr fun K16 hK16 => ?_
     refine goCh Hz (.build rfl fct19 fl90mA rfl (by dsimp only [setL, List.set] <;> rfl) .nil) ?_
     clear Hz Az; intro Az Hz
     refine wpList_plain rfl (fun K hK => ?_)
     refine e_storeW Hz m125 4 rfl rfl rfl rfl rfl fct18 ?_
     clear m125; intro w129 m129 hB129
     clear hB129
     refine hK _ _ ?_; clear hK
     refine znl (hK16 _ _ ?_); clear hK16
     refine wp_ret ?_
     try dsimp only [Exit.then, Exit.inBlock]
     refine (retC (fn := Tryd.f41) Hz m129 (i := 4) rfl rfl rfl U90 rfl fct18 ?_)
     have m130 := m129.freezeR 106 rfl; clear m129
     have hrw : [] ++ List.take k (L.map volD) ++ [[.v (.int .i64 (newV vo bl sz pe to place).vo), .v (.int .i64 (newV vo bl sz pe to place).bl), .v (.int .i64 (newV vo bl sz pe to place).sz), .v (.int .i64 (newV vo bl sz pe to place).pe), .ns .i64 (newV vo bl sz pe to place).place, .v (.int .i64 (newV vo bl sz pe to place).to), .v (.int .i64 (newV vo bl sz pe to place).ne), .v (.bool (newV vo bl sz pe to place).hi), .v (.int .i64 (newV vo bl sz pe to place).fl), .ns .i64 (newV vo bl sz pe to place).pins, .l 2 ((newV vo bl sz pe to place).ws.map wrD)]] ++ List.drop k (L.map volD) = (L.take k ++ [newV vo bl sz pe to place] ++ L.drop k).map volD := by simp [volD, newV]
     simp only [newV] at hrw
     erw [hrw] at m130
     exact ⟨_, _, _, _, L.take k ++ [newV vo bl sz pe to place] ++ L.drop k, _, _, rfl, hM.ins (newV_s hN) k, m130.ren [(1, 1), (2, 106)] (by decide)⟩
    refine e_litR Hz m111 106 (mm := 11) rfl (.cons rfl rfl (.cons (.v _) (.cons (.v _) (.cons (.v _) (.cons (.v _) (.cons (m111.rd (i := 10) rfl) (.cons (.v _) (.cons (.v _) (.cons (.v _) (.cons (.v _) (.cons (Rd.nilN _ _ .i64 _) (.cons (.l0 _ _ 2) .nil))))))))))) <| .nil) U80 fct16 rfl rfl rfl rfl rfl ?_
    clear Hz Az m111; intro g131 Az w132 Hz m132
    refine hK _ _ (fun _ => (m132.to ⟨il, il, il, il, il, il, il, il, il, il, il, trivial⟩)) ?_; clear hK K
    have m133 := m132.nilR 107 30 11
    clear m132
    refine stepE_only 4 rfl (by kernel_rfl) rfl (fun K hK => ?_)
    refine e_appR Hz m133 107 rfl rfl rfl (m133.rd (i := 104) rfl) U80 fct16 rfl rfl (by decide) (by simp; omega) rfl ?_
    clear Hz Az m133; intro p134 c134 Az w135 Hz m135
    refine hK _ _ (m135.to ⟨il, il, il, il, il, il, il, il, il, il, il, trivial⟩) ?_; clear hK K
    have m137 := m135.freezeR 106 rfl; clear m135
    refine stepE_only 7 rfl (by kernel_rfl) rfl (fun K hK => ?_)
    refine e_appR Hz m137 107 rfl rfl rfl (m137.rd (i := 106) rfl) U80 fct16 rfl rfl (by decide) (by simp; omega) rfl ?_
    clear Hz Az m137; intro p136 c136 Az w138 Hz m138
    refine hK _ _ (m138.to ⟨il, il, il, il, il, il, il, il, il, il, il, trivial⟩) ?_; clear hK K
    refine stepE_only 11 rfl (by kernel_rfl) rfl (fun K hK => ?_)
    refine e_appR Hz m138 107 rfl rfl rfl (m138.rd (i := 105) rfl) U80 fct16 rfl rfl (by decide) (by simp; omega) rfl ?_
    clear Hz Az m138; intro p139 c139 Az w140 Hz m140
    refine hK _ _ (m140.to ⟨il, il, il, il, il, il, il, il, il, il, il, trivial⟩) ?_; clear hK K
    refine goA hP101 [12, 13] 2 4095 16383 Hz (m140.to ⟨il, il, il, il, il, il, il, il, il, il, il, trivial⟩) (.nilCheck rfl <| .fa 0 rfl U82 <| .nil) ?_
    clear Hz Az; intro Az Hz
    refine stepE_end 14 rfl (by kernel_rfl) rfl (by rfl) (fun K hK => ?_)
    refine e_store1 Hz m140 1 rfl rfl rfl rfl rfl fct17 (by dsimp only [List.set] <;> rfl) ?_
    clear m140; intro w143 m143 hB143
    clear hB143
    refine hK _ _ ?_; clear hK
    refine wpAnyE_done (by kernel_rfl) ?_ _
    refine hK15 _ _ ?_; clear hK15
    replace Hz : Has 97 [(0, _), (4, _), (5, _), (7, _), (8, _), (9, _)] Az := Hz.only [0, 4, 5, 7, 8, 9]
    refine zsr fun K17 hK17 => ?_
    refine goCh Hz (.build rfl fct19 fl90mA rfl (by dsimp only [setL, List.set] <;> rfl) .nil) ?_
    clear Hz Az; intro Az Hz
    refine wpList_plain rfl (fun K hK => ?_)
    refine e_storeW Hz m143 4 rfl rfl rfl rfl rfl fct18 ?_
    clear m143; intro w147 m147 hB147
    clear hB147
    refine hK _ _ ?_; clear hK
    refine znl (hK17 _ _ ?_); clear hK17
    refine wp_ret ?_
    try dsimp only [Exit.then, Exit.inBlock]
    refine (retC (fn := Tryd.f41) Hz m147 (i := 4) rfl rfl rfl U90 rfl fct18 ?_)
    have m148 := m147.freezeR 107 rfl; clear m147
    have hrw : [] ++ List.take k (L.map volD) ++ [[.v (.int .i64 (newV vo bl sz pe to place).vo), .v (.int .i64 (newV vo bl sz pe to place).bl), .v (.int .i64 (newV vo bl sz pe to place).sz), .v (.int .i64 (newV vo bl sz pe to place).pe), .ns .i64 (newV vo bl sz pe to place).place, .v (.int .i64 (newV vo bl sz pe to place).to), .v (.int .i64 (newV vo bl sz pe to place).ne), .v (.bool (newV vo bl sz pe to place).hi), .v (.int .i64 (newV vo bl sz pe to place).fl), .ns .i64 (newV vo bl sz pe to place).pins, .l 2 ((newV vo bl sz pe to place).ws.map wrD)]] ++ List.drop k (L.map volD) = (L.take k ++ [newV vo bl sz pe to place] ++ L.drop k).map volD := by simp [volD, newV]
    simp only [newV] at hrw
    erw [hrw] at m148
    exact ⟨_, _, _, _, L.take k ++ [newV vo bl sz pe to place] ++ L.drop k, _, _, rfl, hM.ins (newV_s hN) k, m148.ren [(1, 1), (2, 107)] (by decide)⟩
   have m149 : MemOk _ _ [(1, _), (2, _), (4, _), (5, _), (8, _), (9, _), (10, _)] _ := m72.only [1, 2, 4, 5, 8, 9, 10]; clear m72
   refine region_p 14 (B := [(1, _), (2, _), (4, _), (5, _), (8, _), (9, _), (10, _)]) (m149.to ⟨il, il, il, il, il, il, il, trivial⟩) m149 (by kernel_rfl) (fun w150 hP150 m150 => ?_); clear m149
   refine goA hP150 [0, 1, 2, 3, 4] 5 0 31 Hz (m150.to ⟨il, il, il, il, il, il, il, trivial⟩) (.move rfl <| .move rfl <| .len rfl U80 <| .lss rfl rfl <| .move rfl <| .nil) ?_
   clear Hz Az; intro Az Hz
   refine bool_cases Hz (t := 49) rfl ?_ ?_
   · intro hb _; exact absurd hb (by simpa using hk)
   clear Hz; intro _ Hz
   refine goA hP150 [5, 6, 7, 8, 9, 10, 11, 12, 13] 9 31 16383 Hz (m150.to ⟨il, il, il, il, il, il, il, trivial⟩) (.s <| .s <| .s <| .s <| .s <| .s <| .s <| .s <| .pickF rfl rfl <| .nil) ?_
   clear Hz Az; intro Az Hz
   refine wpAnyE_done (by kernel_rfl) ?_ _
   refine hK14 _ _ ?_; clear hK14
   refine wp_cond_false (Hz.ev (x := .tmp 58) rfl) ?_
   refine wp_exit ?_
   refine hK12 _ _ ?_; clear hK12
   refine wp_seq_k (fun K18 hK18 => ?_)
   replace Hz : Has 97 [(0, _), (4, _), (5, _), (7, _), (8, _), (9, _)] Az := Hz.only [0, 4, 5, 7, 8, 9]
   have m167 : MemOk _ _ [(1, _), (2, _), (4, _), (5, _), (8, _), (9, _), (10, _)] _ := m150.only [1, 2, 4, 5, 8, 9, 10]; clear m150
   refine region_p 14 (B := [(1, _), (2, _), (4, _), (5, _), (8, _), (9, _), (10, _)]) (m167.to ⟨il, il, il, il, il, il, il, trivial⟩) m167 (by kernel_rfl) (fun w168 hP168 m168 => ?_); clear m167
   refine goA hP168 [0, 1, 2] 3 0 7 Hz (m168.to ⟨il, il, il, il, il, il, il, trivial⟩) (.move rfl <| .move rfl <| .move rfl <| .nil) ?_
   clear Hz Az; intro Az Hz
   have hcap173 := Rd.capL (m168.rd (i := 8) rfl)
   have m172 := m168.takeR (i := 8) rfl k hkl 100 rfl; clear m168
   refine goR hP168 [3, 5, 8, 9] [5] 4 7 815 Hz (m172.to ⟨il, il, il, il, il, il, il, trivial⟩) (.p (fun _ _ h => y_sliceHn h k rfl rfl U80 fct10 rfl (Nat.le_trans hkl hcap173)) <| .loadBR hh (i := 9) rfl rfl U30 rfl fct10 (by simp) (by dsimp only [List.drop, List.take] <;> rfl) <| .move rfl <| .move rfl <| .nil) ?_
   clear Hz Az; intro Az Hz
   have m178 := m172.dropR (i := 8) rfl k hkl 101 rfl; clear m172
   refine goA hP168 [10] 1 815 1839 Hz (m178.to ⟨il, il, il, il, il, il, il, trivial⟩) (.p (fun _ _ h => y_sliceLn h k rfl rfl U80 fct10 rfl hkl) <| .nil) ?_
   clear Hz Az; intro Az Hz
   refine d_two 4 6 rfl rfl (by kernel_rfl) rfl rfl (fun K hK => ?_) (fun K hK => ?_)
   ·
    have m180 := m178.nilR 102 30 11
    clear m178
    refine e_appR Hz m180 102 rfl rfl rfl (m180.rd (i := 100) rfl) U80 fct16 rfl rfl (by decide) (by simp; omega) rfl ?_
    clear Hz Az m180; intro p181 c181 Az w182 Hz m182
    refine hK _ _ (fun _ => (m182.to ⟨il, il, il, il, il, il, il, trivial⟩)) ?_; clear hK K
    refine stepE_only 6 rfl (by kernel_rfl) rfl (fun K hK => ?_)
    refine e_litR Hz m182 103 (mm := 11) rfl (.cons rfl rfl (.cons (.v _) (.cons (.v _) (.cons (.v _) (.cons (.v _) (.cons (m182.rd (i := 10) rfl) (.cons (.v _) (.cons (.v _) (.cons (.v _) (.cons (.v _) (.cons (Rd.nilN _ _ .i64 _) (.cons (.l0 _ _ 2) .nil))))))))))) <| .nil) U80 fct16 rfl rfl rfl rfl rfl ?_
    clear Hz Az m182; intro g183 Az w184 Hz m184
    refine hK _ _ (m184.to ⟨il, il, il, il, il, il, il, trivial⟩) ?_; clear hK K
    have m186 := m184.freezeR 103 rfl; clear m184
    refine stepE_only 7 rfl (by kernel_rfl) rfl (fun K hK => ?_)
    refine e_appR Hz m186 102 rfl rfl rfl (m186.rd (i := 103) rfl) U80 fct16 rfl rfl (by decide) (by simp; omega) rfl ?_
    clear Hz Az m186; intro p185 c185 Az w187 Hz m187
    refine hK _ _ (m187.to ⟨il, il, il, il, il, il, il, trivial⟩) ?_; clear hK K
    refine stepE_only 11 rfl (by kernel_rfl) rfl (fun K hK => ?_)
    refine e_appR Hz m187 102 rfl rfl rfl (m187.rd (i := 101) rfl) U80 fct16 rfl rfl (by decide) (by simp; omega) rfl ?_
    clear Hz Az m187; intro p188 c188 Az w189 Hz m189
    refine hK _ _ (m189.to ⟨il, il, il, il, il, il, il, trivial⟩) ?_; clear hK K
    refine goA hP168 [12, 13] 2 4095 16383 Hz (m189.to ⟨il, il, il, il, il, il, il, trivial⟩) (.nilCheck rfl <| .fa 0 rfl U82 <| .nil) ?_
    clear Hz Az; intro Az Hz
    refine stepE_end 14 rfl (by kernel_rfl) rfl (by rfl) (fun K hK => ?_)
    refine e_store1 Hz m189 1 rfl rfl rfl rfl rfl fct17 (by dsimp only [List.set] <;> rfl) ?_
    clear m189; intro w192 m192 hB192
    clear hB192
    refine hK _ _ ?_; clear hK
    refine wpAnyE_done (by kernel_rfl) ?_ _
    refine hK18 _ _ ?_; clear hK18
    replace Hz : Has 97 [(0, _), (4, _), (5, _), (7, _), (8, _), (9, _)] Az := Hz.only [0, 4, 5, 7, 8, 9]
    refine zsr fun K19 hK19 => ?_
    refine goCh Hz (.build rfl fct19 fl90mA rfl (by dsimp only [setL, List.set] <;> rfl) .nil) ?_
    clear Hz Az; intro Az Hz
    refine wpList_plain rfl (fun K hK => ?_)
    refine e_storeW Hz m192 4 rfl rfl rfl rfl rfl fct18 ?_
    clear m192; intro w196 m196 hB196
    clear hB196
    refine hK _ _ ?_; clear hK
    refine znl (hK19 _ _ ?_); clear hK19
    refine wp_ret ?_
    try dsimp only [Exit.then, Exit.inBlock]
    refine (retC (fn := Tryd.f41) Hz m196 (i := 4) rfl rfl rfl U90 rfl fct18 ?_)
    have m197 := m196.freezeR 102 rfl; clear m196
    have hrw : [] ++ List.take k (L.map volD) ++ [[.v (.int .i64 (newV vo bl sz pe to place).vo), .v (.int .i64 (newV vo bl sz pe to place).bl), .v (.int .i64 (newV vo bl sz pe to place).sz), .v (.int .i64 (newV vo bl sz pe to place).pe), .ns .i64 (newV vo bl sz pe to place).place, .v (.int .i64 (newV vo bl sz pe to place).to), .v (.int .i64 (newV vo bl sz pe to place).ne), .v (.bool (newV vo bl sz pe to place).hi), .v (.int .i64 (newV vo bl sz pe to place).fl), .ns .i64 (newV vo bl sz pe to place).pins, .l 2 ((newV vo bl sz pe to place).ws.map wrD)]] ++ List.drop k (L.map volD) = (L.take k ++ [newV vo bl sz pe to place] ++ L.drop k).map volD := by simp [volD, newV]
    simp only [newV] at hrw
    erw [hrw] at m197
    exact ⟨_, _, _, _, L.take k ++ [newV vo bl sz pe to place] ++ L.drop k, _, _, rfl, hM.ins (newV_s hN) k, m197.ren [(1, 1), (2, 102)] (by decide)⟩
   refine e_litR Hz m178 102 (mm := 11) rfl (.cons rfl rfl (.cons (.v _) (.cons (.v _) (.cons (.v _) (.cons (.v _) (.cons (m178.rd (i := 10) rfl) (.cons (.v _) (.cons (.v _) (.cons (.v _) (.cons (.v _) (.cons (Rd.nilN _ _ .i64 _) (.cons (.l0 _ _ 2) .nil))))))))))) <| .nil) U80 fct16 rfl rfl rfl rfl rfl ?_
   clear Hz Az m178; intro g198 Az w199 Hz m199
   refine hK _ _ (fun _ => (m199.to ⟨il, il, il, il, il, il, il, trivial⟩)) ?_; clear hK K
   have m200 := m199.nilR 103 30 11
   clear m199
   refine stepE_only 4 rfl (by kernel_rfl) rfl (fun K hK => ?_)
   refine e_appR Hz m200 103 rfl rfl rfl (m200.rd (i := 100) rfl) U80 fct16 rfl rfl (by decide) (by simp; omega) rfl ?_
   clear Hz Az m200; intro p201 c201 Az w202 Hz m202
   refine hK _ _ (m202.to ⟨il, il, il, il, il, il, il, trivial⟩) ?_; clear hK K
   have m204 := m202.freezeR 102 rfl; clear m202
   refine stepE_only 7 rfl (by kernel_rfl) rfl (fun K hK => ?_)
   refine e_appR Hz m204 103 rfl rfl rfl (m204.rd (i := 102) rfl) U80 fct16 rfl rfl (by decide) (by simp; omega) rfl ?_
   clear Hz Az m204; intro p203 c203 Az w205 Hz m205
   refine hK _ _ (m205.to ⟨il, il, il, il, il, il, il, trivial⟩) ?_; clear hK K
   refine stepE_only 11 rfl (by kernel_rfl) rfl (fun K hK => ?_)
   refine e_appR Hz m205 103 rfl rfl rfl (m205.rd (i := 101) rfl) U80 fct16 rfl rfl (by decide) (by simp; omega) rfl ?_
   clear Hz Az m205; intro p206 c206 Az w207 Hz m207
   refine hK _ _ (m207.to ⟨il, il, il, il, il, il, il, trivial⟩) ?_; clear hK K
   refine goA hP168 [12, 13] 2 4095 16383 Hz (m207.to ⟨il, il, il, il, il, il, il, trivial⟩) (.nilCheck rfl <| .fa 0 rfl U82 <| .nil) ?_
   clear Hz Az; intro Az Hz
   refine stepE_end 14 rfl (by kernel_rfl) rfl (by rfl) (fun K hK => ?_)
   refine e_store1 Hz m207 1 rfl rfl rfl rfl rfl fct17 (by dsimp only [List.set] <;> rfl) ?_
   clear m207; intro w210 m210 hB210
   clear hB210
   refine hK _ _ ?_; clear hK
   refine wpAnyE_done (by kernel_rfl) ?_ _
   refine hK18 _ _ ?_; clear hK18
   replace Hz : Has 97 [(0, _), (4, _), (5, _), (7, _), (8, _), (9, _)] Az := Hz.only [0, 4, 5, 7, 8, 9]
   refine zsr fun K20 hK20 => ?_
   refine goCh Hz (.build rfl fct19 fl90mA rfl (by dsimp only [setL, List.set] <;> rfl) .nil) ?_
   clear Hz Az; intro Az Hz
   refine wpList_plain rfl (fun K hK => ?_)
   refine e_storeW Hz m210 4 rfl rfl rfl rfl rfl fct18 ?_
   clear m210; intro w214 m214 hB214
   clear hB214
   refine hK _ _ ?_; clear hK
   refine znl (hK20 _ _ ?_); clear hK20
   refine wp_ret ?_
   try dsimp only [Exit.then, Exit.inBlock]
   refine (retC (fn := Tryd.f41) Hz m214 (i := 4) rfl rfl rfl U90 rfl fct18 ?_)
   have m215 := m214.freezeR 103 rfl; clear m214
   have hrw : [] ++ List.take k (L.map volD) ++ [[.v (.int .i64 (newV vo bl sz pe to place).vo), .v (.int .i64 (newV vo bl sz pe to place).bl), .v (.int .i64 (newV vo bl sz pe to place).sz), .v (.int .i64 (newV vo bl sz pe to place).pe), .ns .i64 (newV vo bl sz pe to place).place, .v (.int .i64 (newV vo bl sz pe to place).to), .v (.int .i64 (newV vo bl sz pe to place).ne), .v (.bool (newV vo bl sz pe to place).hi), .v (.int .i64 (newV vo bl sz pe to place).fl), .ns .i64 (newV vo bl sz pe to place).pins, .l 2 ((newV vo bl sz pe to place).ws.map wrD)]] ++ List.drop k (L.map volD) = (L.take k ++ [newV vo bl sz pe to place] ++ L.drop k).map volD := by simp [volD, newV]
   simp only [newV] at hrw
   erw [hrw] at m215
   exact ⟨_, _, _, _, L.take k ++ [newV vo bl sz pe to place] ++ L.drop k, _, _, rfl, hM.ins (newV_s hN) k, m215.ren [(1, 1), (2, 103)] (by decide)⟩
  refine wp_region_lit ?_
  refine goCh Hz (.loadBR m49 (i := 23) rfl rfl U87 rfl fct11 (by simp) (by dsimp only [List.drop, List.take] <;> rfl) .nil) ?_
  clear Hz Az; intro Az Hz
  refine wpList_plain rfl (fun K hK => ?_)
  refine e_call Hz Tryd.func42 rfl rfl rfl rfl (rnew_non _ vo bl sz pe to _ _ place _ _ _ _ _ _ ((m49.rd (i := 21) rfl).any) (by omega) hN) ?_
  rintro e w217 ⟨rfl, hb217⟩
  have m218 := m49.later hb217
  clear m49
  clear hb217
  refine ⟨_, rfl, ?_⟩; clear Hz Az; intro Az Hz
  refine hK _ _ ?_; clear hK
  refine goCh Hz (.move rfl <| .extract rfl rfl <| .extract rfl rfl <| .nil) ?_
  clear Hz Az; intro Az Hz
  refine wpList_plain rfl (fun K hK => ?_)
  refine e_alloc Hz m218 25 fct12 rfl ?_
  clear Hz Az m218; intro g223 Az w224 Hz m224 hB224 hg224
  clear hB224 hg224
  refine hK _ _ ?_; clear hK
  refine wpList_plain rfl (fun K hK => ?_)
  refine e_storeW Hz m224 25 rfl rfl rfl rfl rfl fct10 ?_
  clear m224; intro w225 m225 hB225
  clear hB225
  refine hK _ _ ?_; clear hK
  refine goCh Hz (.assign rfl .nil) ?_
  clear Hz Az; intro Az Hz
  refine znl (hK10 _ _ ?_); clear hK10
  refine wp_seq_k (fun K21 hK21 => ?_)
  replace Hz : Has 97 [(0, _), (4, _), (5, _), (7, _), (8, _), (9, _), (10, _)] Az := Hz.only [0, 4, 5, 7, 8, 9, 10]
  refine regS Hz (.move rfl <| .neq rfl rfl <| .nil) ?_
  clear Hz Az; intro Az Hz
  refine bool_cases Hz (t := 42) rfl ?_ ?_
  rotate_left
  · intro hb _; exact absurd hb (by simp)
  clear Hz; intro _ Hz
  refine wp_cond_true (Hz.ev (x := .tmp 42) rfl) ?_
  refine zsr fun K22 hK22 => ?_
  refine goCh Hz (.move rfl <| .build rfl fct19 fl90mA rfl (by dsimp only [setL, List.set] <;> rfl) <| .nil) ?_
  clear Hz Az; intro Az Hz
  refine wpList_plain rfl (fun K hK => ?_)
  refine e_storeW Hz m225 20 rfl rfl rfl rfl rfl fct18 ?_
  clear m225; intro w235 m235 hB235
  clear hB235
  refine hK _ _ ?_; clear hK
  refine znl (hK22 _ _ ?_); clear hK22
  refine wp_ret ?_
  try dsimp only [Exit.then, Exit.inBlock]
  refine (retC (fn := Tryd.f41) Hz m235 (i := 20) rfl rfl rfl U90 rfl fct18 ?_)
  exact ⟨_, _, _, _, L, _, _, rfl, hM.up (by omega), m235.only [1, 2]⟩
 clear Hz; intro hb46 Hz; try simp only [QQ, Qax] at hb46
 refine wp_cond_false (Hz.ev (x := .tmp 32) rfl) ?_
 refine zss (hK6 _ _ ?_); clear hK6
 refine wp_seq_k (fun K23 hK23 => ?_)
 replace Hz : Has 97 [(0, _), (4, _), (5, _), (7, _), (8, _)] Az := Hz.only [0, 4, 5, 7, 8]
 refine regS Hz (.move rfl <| .lss rfl rfl <| .nil) ?_
 clear Hz Az; intro Az Hz
 refine bool_cases Hz (t := 77) rfl ?_ ?_
 ·
  clear Hz; intro hb239 Hz; try simp only [QQ, Qax] at hb239
  refine wp_cond_true (Hz.ev (x := .tmp 77) rfl) ?_
  refine zsr fun K24 hK24 => ?_
  refine goCh Hz (.build rfl fct19 fl90mA rfl (by dsimp only [setL, List.set] <;> rfl) .nil) ?_
  clear Hz Az; intro Az Hz
  refine wpList_plain rfl (fun K hK => ?_)
  refine e_storeW Hz m41 20 rfl rfl rfl rfl rfl fct18 ?_
  clear m41; intro w242 m242 hB242
  clear hB242
  refine hK _ _ ?_; clear hK
  refine znl (hK24 _ _ ?_); clear hK24
  refine wp_ret ?_
  try dsimp only [Exit.then, Exit.inBlock]
  refine (retC (fn := Tryd.f41) Hz m242 (i := 20) rfl rfl rfl U90 rfl fct18 ?_)
  exact ⟨_, _, _, _, L, _, _, rfl, hM.up (by omega), m242.only [1, 2]⟩
 clear Hz; intro hb239 Hz; try simp only [QQ, Qax] at hb239
 obtain ⟨jn, rfl⟩ : ∃ jn : Nat, j = (jn : Int) := ⟨j.toNat, by omega⟩
 have hjl : jn < L.length := by omega
 obtain ⟨x, hes⟩ : ∃ x, L[jn]? = some x := ⟨_, List.getElem?_eq_getElem hjl⟩
 refine wp_cond_false (Hz.ev (x := .tmp 77) rfl) ?_
 refine zss (hK23 _ _ ?_); clear hK23
 refine wp_seq_k (fun K25 hK25 => ?_)
 have hC25 : ∀ (a : Act) (w : World), (∃ (y : VolV) (e9 rl rf rn : Int) (B4 B11 B12 c8 d1 d2 d3 : Nat) (p8 p1 p2 p3 : Option Addr), VolS (n + 1) y ∧ Has 97 [(0, .pointer (some ⟨B, 0, none⟩)), (4, .pointer (some ⟨B4, 0, none⟩)), (7, .int .i64 jn), (8, .slice p8 ([] ++ (L.map volD)).length c8), (11, .pointer (some ⟨B11, 0, none⟩)), (12, .pointer (some ⟨B12, 0, none⟩))] a ∧ MemOk X w0 [(1, .box B 82 [.slice p (L.map volD).length c]), (2, .dat (.slice p (L.map volD).length c) (.l 11 (L.map volD))), (4, .box B4 90 [.int .i64 0, .int .i64 0, .int .i64 0, .int .i64 0, .slice none 0 0]), (8, .row (.slice p8 ([] ++ (L.map volD)).length c8) 30 11 ([] ++ (L.map volD))), (11, .box B11 30 [.int .i64 y.vo, .int .i64 y.bl, .int .i64 y.sz, .int .i64 y.pe, .slice p1 y.place.length d1, .int .i64 y.to, .int .i64 y.ne, .bool y.hi, .int .i64 y.fl, .slice p2 y.pins.length d2, .slice p3 (y.ws.map wrD).length d3]), (12, .box B12 90 [.int .i64 e9, .int .i64 rl, .int .i64 rf, .int .i64 rn, .slice none 0 0]), (13, .dat (.slice p1 y.place.length d1) (.ns .i64 y.place)), (14, .dat (.slice p2 y.pins.length d2) (.ns .i64 y.pins)), (15, .dat (.slice p3 (y.ws.map wrD).length d3) (.l 2 (y.ws.map wrD)))] w) → K25 a w := by
   clear Hz m41
   rintro Az w243 ⟨y, e9, rl, rf, rn, B4, B11, B12, c8, d1, d2, d3, p8, p1, p2, p3, hyS, Hz, m243⟩
   refine hK25 _ _ ?_; clear hK25
   refine zsr fun K26 hK26 => ?_
   refine goCh Hz (.move rfl <| .move rfl <| .loadBR m243 (i := 11) rfl rfl U30 rfl fct10 (by simp) (by dsimp only [List.drop, List.take] <;> rfl) <| .nil) ?_
   clear Hz Az; intro Az Hz
   obtain ⟨gr251, cr251, hp251, _⟩ := m243.openC (i := 8) rfl (Nat.lt_of_le_of_lt (Nat.zero_le jn) (by simpa using hjl)); cases hp251
   refine goCh Hz (.c rfl (fun _ h => y_idx h rfl rfl U80 fct10 (jn) rfl (by simpa using hjl)) .nil) ?_
   clear Hz Az; intro Az Hz
   refine wpList_plain rfl (fun K hK => ?_)
   refine e_storeRW Hz m243 8 rfl (jn) (by simpa using hjl) rfl rfl rfl rfl rfl fct10 (.cons (.v _) (.cons (.v _) (.cons (.v _) (.cons (.v _) (.cons (m243.rd (i := 13) rfl) (.cons (.v _) (.cons (.v _) (.cons (.v _) (.cons (.v _) (.cons (m243.rd (i := 14) rfl) (.cons (m243.rd (i := 15) rfl) .nil))))))))))) ?_
   clear m243; intro w253 m253
   refine hK _ _ ?_; clear hK
   refine znl (hK26 _ _ ?_); clear hK26
   refine zsr fun K27 hK27 => ?_
   refine goCh Hz (.move rfl <| .move rfl <| .nilCheck rfl <| .fa 0 rfl U82 <| .nil) ?_
   clear Hz Az; intro Az Hz
   refine wpList_plain rfl (fun K hK => ?_)
   refine e_store1 Hz m253 1 rfl rfl rfl rfl rfl fct17 (by dsimp only [List.set] <;> rfl) ?_
   clear m253; intro w262 m262 hB262
   clear hB262
   refine hK _ _ ?_; clear hK
   refine znl (hK27 _ _ ?_); clear hK27
   replace Hz : Has 97 [(4, _), (12, _), (90, _)] Az := Hz.only [4, 12, 90]
   refine zsr fun K28 hK28 => ?_
   refine goCh Hz (.loadBR m262 (i := 12) rfl rfl U90 rfl fct18 (by simp) (by dsimp only [List.drop, List.take] <;> rfl) .nil) ?_
   clear Hz Az; intro Az Hz
   refine wpList_plain rfl (fun K hK => ?_)
   refine e_storeW Hz m262 4 rfl rfl rfl rfl rfl fct18 ?_
   clear m262; intro w266 m266 hB266
   clear hB266
   refine hK _ _ ?_; clear hK
   refine znl (hK28 _ _ ?_); clear hK28
   refine wp_ret ?_
   try dsimp only [Exit.then, Exit.inBlock]
   refine (retC (fn := Tryd.f41) Hz m266 (i := 4) rfl rfl rfl U90 rfl fct18 ?_)
   have m267 := m266.freezeR 8 rfl; clear m266
   have hrw : ([] ++ (L.map volD)).set jn [.v (.int .i64 y.vo), .v (.int .i64 y.bl), .v (.int .i64 y.sz), .v (.int .i64 y.pe), .ns .i64 y.place, .v (.int .i64 y.to), .v (.int .i64 y.ne), .v (.bool y.hi), .v (.int .i64 y.fl), .ns .i64 y.pins, .l 2 (y.ws.map wrD)] = (L.set jn y).map volD := by rw [List.nil_append, List.map_set]; rfl
   have hln : ([] ++ (L.map volD)).length = ((L.set jn y).map volD).length := by simp
   rw [hrw, hln] at m267
   exact ⟨_, _, _, _, L.set jn y, _, _, rfl, hM.set hyS jn, m267.ren [(1, 1), (2, 8)] (by decide)⟩
 obtain ⟨gr269, cr269, hp269, m269⟩ := m41.openC (i := 24) rfl (Nat.lt_of_le_of_lt (Nat.zero_le _) (by simpa using hjl))
 cases hp269; clear m41
 obtain ⟨vs270, hc270, hR270⟩ := m269.eltC (i := 24) rfl (jn) (r := [.v (.int .i64 x.vo), .v (.int .i64 x.bl), .v (.int .i64 x.sz), .v (.int .i64 x.pe), .ns .i64 x.place, .v (.int .i64 x.to), .v (.int .i64 x.ne), .v (.bool x.hi), .v (.int .i64 x.fl), .ns .i64 x.pins, .l 2 (x.ws.map wrD)]) (by simpa using volD_get hes)
 rcases hR270 with _ | ⟨hd270_0, _ | ⟨hd270_1, _ | ⟨hd270_2, _ | ⟨hd270_3, _ | ⟨hd270_4, _ | ⟨hd270_5, _ | ⟨hd270_6, _ | ⟨hd270_7, _ | ⟨hd270_8, _ | ⟨hd270_9, _ | ⟨hd270_10, _ | _⟩⟩⟩⟩⟩⟩⟩⟩⟩⟩⟩
 obtain rfl := hd270_0.v_out
 clear hd270_0
 obtain rfl := hd270_1.v_out
 clear hd270_1
 obtain rfl := hd270_2.v_out
 clear hd270_2
 obtain rfl := hd270_3.v_out
 clear hd270_3
 obtain ⟨p271, c271, hv271, hw271⟩ := hd270_4.ns_shape; subst hv271
 have m271 := m269.dat 25 rfl (hd270_4.cast (fun _ h => h)); clear m269 hd270_4
 obtain rfl := hd270_5.v_out
 clear hd270_5
 obtain rfl := hd270_6.v_out
 clear hd270_6
 obtain rfl := hd270_7.v_out
 clear hd270_7
 obtain rfl := hd270_8.v_out
 clear hd270_8
 obtain ⟨p272, c272, hv272, hw272⟩ := hd270_9.ns_shape; subst hv272
 have m272 := m271.dat 26 rfl (hd270_9.cast (fun _ h => (free_add rfl h))); clear m271 hd270_9
 obtain ⟨p273, c273, hv273, hw273⟩ := hd270_10.l_shape; subst hv273
 have m273 := m272.dat 27 rfl (hd270_10.cast (fun _ h => (free_add rfl (free_add rfl h)))); clear m272 hd270_10
 have m274 : MemOk _ _ [(1, _), (2, _), (20, _), (21, _), (22, _), (23, _), (24, _), (25, _), (26, _), (27, _)] _ := m273.only [1, 2, 20, 21, 22, 23, 24, 25, 26, 27]; clear m273
 refine region_p 5 (B := [(1, _), (2, _), (20, _), (21, _), (22, _), (23, _), (24, _), (25, _), (26, _), (27, _)]) (m274.to ⟨il, il, il, il, il, il, il, il, il, il, trivial⟩) m274 (by kernel_rfl) (fun w275 hP275 m275 => ?_); clear m274
 refine goR hP275 [0, 1, 2, 3, 4] [3, 4] 5 0 31 Hz (m275.to ⟨il, il, il, il, il, il, il, il, il, il, trivial⟩) (.move rfl <| .move rfl <| .p (fun _ _ h => y_idx h rfl rfl U80 fct10 (jn) rfl (by simpa using hjl)) <| .c (fun _ hW _ h => y_loadRC h hW (i := 24) rfl (jn) hc270 rfl U30 rfl fct10) <| .loadBR hh (i := 23) rfl rfl U87 rfl fct11 (by simp) (by dsimp only [List.drop, List.take] <;> rfl) <| .nil) ?_
 clear Hz Az; intro Az Hz
 refine d_three 5 9 10 rfl rfl rfl (by kernel_rfl) rfl rfl rfl (fun K hK => ?_) (fun K hK => ?_) (fun K hK => ?_)
 ·
  refine e_call Hz Tryd.func64 rfl rfl rfl rfl (rDoAny _ x n (hM.2 _ (List.mem_of_getElem? hes)) hn items _ _ _ _ _ _ _ _ _ _ _ _ _ _ _ _ _ _ _ _ (by omega) (fun e he => itok (hii e he).1) (fun e he => (hii e he).2) (m275.into [(1, 25), (2, 26), (3, 27), (4, 22)] (by decide) rfl)) ?_
  rintro e w281 ⟨y, e9, rl, rf, rn, p1281, p2281, p3281, d1281, d2281, d3281, rfl, hyo, hyS, hm281⟩
  have mx281 := m275.back hm281 [(28, 1), (29, 2), (30, 3)] (by decide); clear hm281 m275
  have m281 : MemOk _ _ [(28, _), (29, _), (30, _), (1, _), (2, _), (20, _), (21, _), (23, _), (24, _)] _ := mx281.only [28, 29, 30, 1, 2, 20, 21, 23, 24]; clear mx281
  refine ⟨_, rfl, ?_⟩; clear Hz Az; intro Az Hz
  refine hK _ _ (fun h => (Bool.false_ne_true (h.symm.trans (by rfl))).elim) ?_; clear hK K
  refine goB hP275 [6, 7, 8] 3 63 511 Hz (.move rfl <| .extract rfl rfl <| .extract rfl rfl <| .nil) ?_
  clear Hz Az; intro Az Hz
  refine d_two 9 10 rfl rfl (by kernel_rfl) rfl rfl (fun K hK => ?_) (fun K hK => ?_)
  ·
   refine e_alloc Hz m281 31 fct12 rfl ?_
   clear Hz Az m281; intro g286 Az w287 Hz m287 hB287 hg287
   clear hB287 hg287
   refine hK _ _ (fun h => (Bool.false_ne_true (h.symm.trans (by rfl))).elim) ?_; clear hK K
   refine stepE_end 10 rfl (by kernel_rfl) rfl (by rfl) (fun K hK => ?_)
   refine e_alloc Hz m287 32 fct19 rfl ?_
   clear Hz Az m287; intro g288 Az w289 Hz m289 hB289 hg289
   clear hB289 hg289
   refine hK _ _ ?_; clear hK
   refine stepE_end 11 rfl (by kernel_rfl) rfl (by rfl) (fun K hK => ?_)
   refine e_storeW Hz m289 31 rfl rfl rfl rfl rfl fct10 ?_
   clear m289; intro w290 m290 hB290
   clear hB290
   refine hK _ _ ?_; clear hK
   refine stepE_end 12 rfl (by kernel_rfl) rfl (by rfl) (fun K hK => ?_)
   refine e_storeW Hz m290 32 rfl rfl rfl rfl rfl fct18 ?_
   clear m290; intro w291 m291 hB291
   clear hB291
   refine hK _ _ ?_; clear hK
   refine wpAnyE_done (by kernel_rfl) ?_ _
   have m292 := m291.closeC 24 rfl; clear m291
   show K25 _ _
   exact hC25 _ _ ⟨y, _, _, _, _, _, _, _, _, _, _, _, _, _, _, _, hyS, Hz.only [0, 4, 7, 8, 11, 12], m292.ren [(1, 1), (2, 2), (4, 20), (8, 24), (11, 31), (12, 32), (13, 28), (14, 29), (15, 30)] (by decide)⟩
  refine e_alloc Hz m281 31 fct19 rfl ?_
  clear Hz Az m281; intro g293 Az w294 Hz m294 hB294 hg294
  clear hB294 hg294
  refine hK _ _ (fun h => (Bool.false_ne_true (h.symm.trans (by rfl))).elim) ?_; clear hK K
  refine stepE_end 9 rfl (by kernel_rfl) rfl (by rfl) (fun K hK => ?_)
  refine e_alloc Hz m294 32 fct12 rfl ?_
  clear Hz Az m294; intro g295 Az w296 Hz m296 hB296 hg296
  clear hB296 hg296
  refine hK _ _ ?_; clear hK
  refine stepE_end 11 rfl (by kernel_rfl) rfl (by rfl) (fun K hK => ?_)
  refine e_storeW Hz m296 32 rfl rfl rfl rfl rfl fct10 ?_
  clear m296; intro w297 m297 hB297
  clear hB297
  refine hK _ _ ?_; clear hK
  refine stepE_end 12 rfl (by kernel_rfl) rfl (by rfl) (fun K hK => ?_)
  refine e_storeW Hz m297 31 rfl rfl rfl rfl rfl fct18 ?_
  clear m297; intro w298 m298 hB298
  clear hB298
  refine hK _ _ ?_; clear hK
  refine wpAnyE_done (by kernel_rfl) ?_ _
  have m299 := m298.closeC 24 rfl; clear m298
  show K25 _ _
  exact hC25 _ _ ⟨y, _, _, _, _, _, _, _, _, _, _, _, _, _, _, _, hyS, Hz.only [0, 4, 7, 8, 11, 12], m299.ren [(1, 1), (2, 2), (4, 20), (8, 24), (11, 32), (12, 31), (13, 28), (14, 29), (15, 30)] (by decide)⟩
 ·
  refine e_alloc Hz m275 28 fct12 rfl ?_
  clear Hz Az m275; intro g300 Az w301 Hz m301 hB301 hg301
  clear hB301 hg301
  refine hK _ _ (fun _ => (m301.to ⟨il, il, il, il, il, il, il, il, il, il, trivial⟩)) ?_; clear hK K
  refine d_two 5 10 rfl rfl (by kernel_rfl) rfl rfl (fun K hK => ?_) (fun K hK => ?_)
  ·
   refine e_call Hz Tryd.func64 rfl rfl rfl rfl (rDoAny _ x n (hM.2 _ (List.mem_of_getElem? hes)) hn items _ _ _ _ _ _ _ _ _ _ _ _ _ _ _ _ _ _ _ _ (by omega) (fun e he => itok (hii e he).1) (fun e he => (hii e he).2) (m301.into [(1, 25), (2, 26), (3, 27), (4, 22)] (by decide) rfl)) ?_
   rintro e w302 ⟨y, e9, rl, rf, rn, p1302, p2302, p3302, d1302, d2302, d3302, rfl, hyo, hyS, hm302⟩
   have mx302 := m301.back hm302 [(29, 1), (30, 2), (31, 3)] (by decide); clear hm302 m301
   have m302 : MemOk _ _ [(29, _), (30, _), (31, _), (1, _), (2, _), (20, _), (21, _), (23, _), (24, _), (28, _)] _ := mx302.only [29, 30, 31, 1, 2, 20, 21, 23, 24, 28]; clear mx302
   refine ⟨_, rfl, ?_⟩; clear Hz Az; intro Az Hz
   refine hK _ _ (fun h => (Bool.false_ne_true (h.symm.trans (by rfl))).elim) ?_; clear hK K
   refine goB hP275 [6, 7, 8] 3 575 1023 Hz (.move rfl <| .extract rfl rfl <| .extract rfl rfl <| .nil) ?_
   clear Hz Az; intro Az Hz
   refine stepE_end 10 rfl (by kernel_rfl) rfl (by rfl) (fun K hK => ?_)
   refine e_alloc Hz m302 32 fct19 rfl ?_
   clear Hz Az m302; intro g307 Az w308 Hz m308 hB308 hg308
   clear hB308 hg308
   refine hK _ _ ?_; clear hK
   refine stepE_end 11 rfl (by kernel_rfl) rfl (by rfl) (fun K hK => ?_)
   refine e_storeW Hz m308 28 rfl rfl rfl rfl rfl fct10 ?_
   clear m308; intro w309 m309 hB309
   clear hB309
   refine hK _ _ ?_; clear hK
   refine stepE_end 12 rfl (by kernel_rfl) rfl (by rfl) (fun K hK => ?_)
   refine e_storeW Hz m309 32 rfl rfl rfl rfl rfl fct18 ?_
   clear m309; intro w310 m310 hB310
   clear hB310
   refine hK _ _ ?_; clear hK
   refine wpAnyE_done (by kernel_rfl) ?_ _
   have m311 := m310.closeC 24 rfl; clear m310
   show K25 _ _
   exact hC25 _ _ ⟨y, _, _, _, _, _, _, _, _, _, _, _, _, _, _, _, hyS, Hz.only [0, 4, 7, 8, 11, 12], m311.ren [(1, 1), (2, 2), (4, 20), (8, 24), (11, 28), (12, 32), (13, 29), (14, 30), (15, 31)] (by decide)⟩
  refine e_alloc Hz m301 29 fct19 rfl ?_
  clear Hz Az m301; intro g312 Az w313 Hz m313 hB313 hg313
  clear hB313 hg313
  refine hK _ _ (fun _ => (m313.to ⟨il, il, il, il, il, il, il, il, il, il, trivial⟩)) ?_; clear hK K
  refine stepE_end 5 rfl (by kernel_rfl) rfl (by rfl) (fun K hK => ?_)
  refine e_call Hz Tryd.func64 rfl rfl rfl rfl (rDoAny _ x n (hM.2 _ (List.mem_of_getElem? hes)) hn items _ _ _ _ _ _ _ _ _ _ _ _ _ _ _ _ _ _ _ _ (by omega) (fun e he => itok (hii e he).1) (fun e he => (hii e he).2) (m313.into [(1, 25), (2, 26), (3, 27), (4, 22)] (by decide) rfl)) ?_
  rintro e w314 ⟨y, e9, rl, rf, rn, p1314, p2314, p3314, d1314, d2314, d3314, rfl, hyo, hyS, hm314⟩
  have mx314 := m313.back hm314 [(30, 1), (31, 2), (32, 3)] (by decide); clear hm314 m313
  have m314 : MemOk _ _ [(30, _), (31, _), (32, _), (1, _), (2, _), (20, _), (21, _), (23, _), (24, _), (28, _), (29, _)] _ := mx314.only [30, 31, 32, 1, 2, 20, 21, 23, 24, 28, 29]; clear mx314
  refine ⟨_, rfl, ?_⟩; clear Hz Az; intro Az Hz
  refine hK _ _ ?_; clear hK
  refine goB hP275 [6, 7, 8] 3 1599 2047 Hz (.move rfl <| .extract rfl rfl <| .extract rfl rfl <| .nil) ?_
  clear Hz Az; intro Az Hz
  refine stepE_end 11 rfl (by kernel_rfl) rfl (by rfl) (fun K hK => ?_)
  refine e_storeW Hz m314 28 rfl rfl rfl rfl rfl fct10 ?_
  clear m314; intro w319 m319 hB319
  clear hB319
  refine hK _ _ ?_; clear hK
  refine stepE_end 12 rfl (by kernel_rfl) rfl (by rfl) (fun K hK => ?_)
  refine e_storeW Hz m319 29 rfl rfl rfl rfl rfl fct18 ?_
  clear m319; intro w320 m320 hB320
  clear hB320
  refine hK _ _ ?_; clear hK
  refine wpAnyE_done (by kernel_rfl) ?_ _
  have m321 := m320.closeC 24 rfl; clear m320
  show K25 _ _
  exact hC25 _ _ ⟨y, _, _, _, _, _, _, _, _, _, _, _, _, _, _, _, hyS, Hz.only [0, 4, 7, 8, 11, 12], m321.ren [(1, 1), (2, 2), (4, 20), (8, 24), (11, 28), (12, 29), (13, 30), (14, 31), (15, 32)] (by decide)⟩
 refine e_alloc Hz m275 28 fct19 rfl ?_
 clear Hz Az m275; intro g322 Az w323 Hz m323 hB323 hg323
 clear hB323 hg323
 refine hK _ _ (fun _ => (m323.to ⟨il, il, il, il, il, il, il, il, il, il, trivial⟩)) ?_; clear hK K
 refine d_two 5 9 rfl rfl (by kernel_rfl) rfl rfl (fun K hK => ?_) (fun K hK => ?_)
 ·
  refine e_call Hz Tryd.func64 rfl rfl rfl rfl (rDoAny _ x n (hM.2 _ (List.mem_of_getElem? hes)) hn items _ _ _ _ _ _ _ _ _ _ _ _ _ _ _ _ _ _ _ _ (by omega) (fun e he => itok (hii e he).1) (fun e he => (hii e he).2) (m323.into [(1, 25), (2, 26), (3, 27), (4, 22)] (by decide) rfl)) ?_
  rintro e w324 ⟨y, e9, rl, rf, rn, p1324, p2324, p3324, d1324, d2324, d3324, rfl, hyo, hyS, hm324⟩
  have mx324 := m323.back hm324 [(29, 1), (30, 2), (31, 3)] (by decide); clear hm324 m323
  have m324 : MemOk _ _ [(29, _), (30, _), (31, _), (1, _), (2, _), (20, _), (21, _), (23, _), (24, _), (28, _)] _ := mx324.only [29, 30, 31, 1, 2, 20, 21, 23, 24, 28]; clear mx324
  refine ⟨_, rfl, ?_⟩; clear Hz Az; intro Az Hz
  refine hK _ _ (fun h => (Bool.false_ne_true (h.symm.trans (by rfl))).elim) ?_; clear hK K
  refine goB hP275 [6, 7, 8] 3 1087 1535 Hz (.move rfl <| .extract rfl rfl <| .extract rfl rfl <| .nil) ?_
  clear Hz Az; intro Az Hz
  refine stepE_end 9 rfl (by kernel_rfl) rfl (by rfl) (fun K hK => ?_)
  refine e_alloc Hz m324 32 fct12 rfl ?_
  clear Hz Az m324; intro g329 Az w330 Hz m330 hB330 hg330
  clear hB330 hg330
  refine hK _ _ ?_; clear hK
  refine stepE_end 11 rfl (by kernel_rfl) rfl (by rfl) (fun K hK => ?_)
  refine e_storeW Hz m330 32 rfl rfl rfl rfl rfl fct10 ?_
  clear m330; intro w331 m331 hB331
  clear hB331
  refine hK _ _ ?_; clear hK
  refine stepE_end 12 rfl (by kernel_rfl) rfl (by rfl) (fun K hK => ?_)
  refine e_storeW Hz m331 28 rfl rfl rfl rfl rfl fct18 ?_
  clear m331; intro w332 m332 hB332
  clear hB332
  refine hK _ _ ?_; clear hK
  refine wpAnyE_done (by kernel_rfl) ?_ _
  have m333 := m332.closeC 24 rfl; clear m332
  show K25 _ _
  exact hC25 _ _ ⟨y, _, _, _, _, _, _, _, _, _, _, _, _, _, _, _, hyS, Hz.only [0, 4, 7, 8, 11, 12], m333.ren [(1, 1), (2, 2), (4, 20), (8, 24), (11, 32), (12, 28), (13, 29), (14, 30), (15, 31)] (by decide)⟩
 refine e_alloc Hz m323 29 fct12 rfl ?_
 clear Hz Az m323; intro g334 Az w335 Hz m335 hB335 hg335
 clear hB335 hg335
 refine hK _ _ (fun _ => (m335.to ⟨il, il, il, il, il, il, il, il, il, il, trivial⟩)) ?_; clear hK K
 refine stepE_end 5 rfl (by kernel_rfl) rfl (by rfl) (fun K hK => ?_)
 refine e_call Hz Tryd.func64 rfl rfl rfl rfl (rDoAny _ x n (hM.2 _ (List.mem_of_getElem? hes)) hn items _ _ _ _ _ _ _ _ _ _ _ _ _ _ _ _ _ _ _ _ (by omega) (fun e he => itok (hii e he).1) (fun e he => (hii e he).2) (m335.into [(1, 25), (2, 26), (3, 27), (4, 22)] (by decide) rfl)) ?_
 rintro e w336 ⟨y, e9, rl, rf, rn, p1336, p2336, p3336, d1336, d2336, d3336, rfl, hyo, hyS, hm336⟩
 have mx336 := m335.back hm336 [(30, 1), (31, 2), (32, 3)] (by decide); clear hm336 m335
 have m336 : MemOk _ _ [(30, _), (31, _), (32, _), (1, _), (2, _), (20, _), (21, _), (23, _), (24, _), (28, _), (29, _)] _ := mx336.only [30, 31, 32, 1, 2, 20, 21, 23, 24, 28, 29]; clear mx336
 refine ⟨_, rfl, ?_⟩; clear Hz Az; intro Az Hz
 refine hK _ _ ?_; clear hK
 refine goB hP275 [6, 7, 8] 3 1599 2047 Hz (.move rfl <| .extract rfl rfl <| .extract rfl rfl <| .nil) ?_
 clear Hz Az; intro Az Hz
 refine stepE_end 11 rfl (by kernel_rfl) rfl (by rfl) (fun K hK => ?_)
 refine e_storeW Hz m336 29 rfl rfl rfl rfl rfl fct10 ?_
 clear m336; intro w341 m341 hB341
 clear hB341
 refine hK _ _ ?_; clear hK
 refine stepE_end 12 rfl (by kernel_rfl) rfl (by rfl) (fun K hK => ?_)
 refine e_storeW Hz m341 28 rfl rfl rfl rfl rfl fct18 ?_
 clear m341; intro w342 m342 hB342
 clear hB342
 refine hK _ _ ?_; clear hK
 refine wpAnyE_done (by kernel_rfl) ?_ _
 have m343 := m342.closeC 24 rfl; clear m342
 show K25 _ _
 exact hC25 _ _ ⟨y, _, _, _, _, _, _, _, _, _, _, _, _, _, _, _, hyS, Hz.only [0, 4, 7, 8, 11, 12], m343.ren [(1, 1), (2, 2), (4, 20), (8, 24), (11, 29), (12, 28), (13, 30), (14, 31), (15, 32)] (by decide)⟩
end Go.Proofs.YtflcgpajodfkoaaDoor.K
