/- VolumePlays' walk. -/
import Derived.Test.YtocfbocdnklllaaVol18
import Derived.Test.YtocfbocdnklllaaVol13
namespace Go.Proofs.Ytocfbocdnklllaa.K
open Go.ChangeShapes Go.WideShapes Go.ChangeAt Go.RowKit
set_option linter.unusedVariables false
set_option linter.unusedSimpArgs false

theorem sz5vp : (Try.prog.info? 5).map (·.size) = some 1 := by kernel_rfl
theorem sz25vp : (Try.prog.info? 25).map (·.size) = some 10 := by kernel_rfl
theorem sz26vp : (Try.prog.info? 26).map (·.size) = some 4 := by kernel_rfl
theorem sz34vp : (Try.prog.info? 34).map (·.size) = some 11 := by kernel_rfl
theorem sz45vp : (Try.prog.info? 45).map (·.size) = some 5 := by kernel_rfl
theorem zc25vp : ((Try.prog.info? 25).bind (·.zero)).map (·.cells.toList) = some [.int .i64 0, .int .i64 0, .int .i64 0, .int .i64 0, .int .i64 0, .slice none 0 0, .int .i64 0, .int .i64 0, .int .i64 0, .slice none 0 0] := by kernel_rfl
theorem zc34vp : ((Try.prog.info? 34).bind (·.zero)).map (·.cells.toList) = some [.int .i64 0, .int .i64 0, .int .i64 0, .int .i64 0, .slice none 0 0, .int .i64 0, .int .i64 0, .bool false, .int .i64 0, .slice none 0 0, .slice none 0 0] := by kernel_rfl
theorem zc45vp : ((Try.prog.info? 45).bind (·.zero)).map (·.cells.toList) = some [.int .i64 0, .int .i64 0, .int .i64 0, .int .i64 0, .slice none 0 0] := by kernel_rfl

structure RC where
 kd : Int
 vo : Int
 bl : Int
 sz : Int
 pe : Int
 pl : List Int
 to : Int
 at0 : Int
 ix : Int
 its : List (Int × List Int)
def cmdD (c : RC) : List D := [.v (.int .i64 c.kd), .v (.int .i64 c.vo), .v (.int .i64 c.bl), .v (.int .i64 c.sz), .v (.int .i64 c.pe), .ns .i64 c.pl, .v (.int .i64 c.to), .v (.int .i64 c.at0), .v (.int .i64 c.ix), .l 2 (c.its.map itD)]
theorem cmdD_get {A : List RC} {k : Nat} {c : RC} (h : A[k]? = some c) : (A.map cmdD)[k]? = some [.v (.int .i64 c.kd), .v (.int .i64 c.vo), .v (.int .i64 c.bl), .v (.int .i64 c.sz), .v (.int .i64 c.pe), .ns .i64 c.pl, .v (.int .i64 c.to), .v (.int .i64 c.at0), .v (.int .i64 c.ix), .l 2 (c.its.map itD)] := by simp [h, cmdD]
def f4 (x : Int × Int × Int × Int) : List D := [.v (.int .u8 x.1), .v (.int .u8 x.2.1), .v (.int .u8 x.2.2.1), .v (.int .u8 x.2.2.2)]
theorem f4_get {A : List (Int × Int × Int × Int)} {k : Nat} {x : Int × Int × Int × Int} (h : A[k]? = some x) : (A.map f4)[k]? = some [.v (.int .u8 x.1), .v (.int .u8 x.2.1), .v (.int .u8 x.2.2.1), .v (.int .u8 x.2.2.2)] := by simp [h, f4]
open Classical in
noncomputable def newQ (vo bl sz pe to : Int) (place : List Int) : Int × Int × Int × Int × List Int × Int × Bool × Int := if NewOk vo bl sz pe to place then (vo, bl, sz, pe, place, to, decide (0 < to), 0) else (0, 0, 0, 0, [], 0, false, 23)
theorem kd3 (kd : Int) : kd = 4 ∨ kd = 5 ∨ (kd ≠ 4 ∧ kd ≠ 5) := by omega
set_option maxRecDepth 100000
set_option maxHeartbeats 4000000
theorem vnew_q (kd vo bl sz pe to at0 ix : Int) (place : List Int) (pp pi : Option Addr) (cp ni ci : Nat) (w0 : World) (h0 : Rd (fun _ => True) w0 (.slice pp place.length cp) (.ns .i64 place)) (hn : place.length ≤ 1000000) :
   Calls Try.prog 11 #[.agg #[.int .i64 kd, .int .i64 vo, .int .i64 bl, .int .i64 sz, .int .i64 pe, .slice pp place.length cp, .int .i64 to, .int .i64 at0, .int .i64 ix, .slice pi ni ci]] w0 fun e w' => ∃ (vo' bl' sz' pe' : Int) (pl' : List Int) (to' : Int) (hi' : Bool) (e9 : Int) (p : Option Addr) (c : Nat), e = .returned (.tuple #[.agg #[.int .i64 vo', .int .i64 bl', .int .i64 sz', .int .i64 pe', .slice p pl'.length c, .int .i64 to', .int .i64 0, .bool hi', .int .i64 0, .slice none 0 0, .slice none 0 0], .int .i64 e9]) ∧ newQ vo bl sz pe to place = (vo', bl', sz', pe', pl', to', hi', e9) ∧ pl'.length ≤ place.length ∧ Rd (New w0) w' (.slice p pl'.length c) (.ns .i64 pl') ∧ Below w0.heap.size w0 w' := by
 refine (vnew_any kd vo bl sz pe to at0 ix place pp pi cp ni ci w0 h0 hn).mono ?_
 rintro e w' (⟨hN, p, c, rfl, h1, h2⟩ | ⟨hN, rfl, h2⟩)
 · exact ⟨_, _, _, _, place, _, _, _, p, c, rfl, by rw [newQ, if_pos hN], Nat.le_refl _, h1, h2⟩
 · exact ⟨0, 0, 0, 0, [], 0, false, 23, none, 0, rfl, by rw [newQ, if_neg hN], Nat.zero_le _, Rd.nilN _ _ .i64 none, h2⟩
theorem rnew_q (kd vo bl sz pe to at0 ix : Int) (place : List Int) (pp pi : Option Addr) (cp ni ci : Nat) (w0 : World) (h0 : Rd (fun _ => True) w0 (.slice pp place.length cp) (.ns .i64 place)) (hn : place.length ≤ 1000000) :
   Calls Try.prog 12 #[.agg #[.int .i64 kd, .int .i64 vo, .int .i64 bl, .int .i64 sz, .int .i64 pe, .slice pp place.length cp, .int .i64 to, .int .i64 at0, .int .i64 ix, .slice pi ni ci]] w0 fun e w' => ∃ (vo' bl' sz' pe' : Int) (pl' : List Int) (to' : Int) (hi' : Bool) (e9 : Int) (p : Option Addr) (c : Nat), e = .returned (.tuple #[.agg #[.int .i64 vo', .int .i64 bl', .int .i64 sz', .int .i64 pe', .slice p pl'.length c, .int .i64 to', .int .i64 0, .bool hi', .int .i64 0, .slice none 0 0, .slice none 0 0], .int .i64 e9]) ∧ newQ vo bl sz pe to place = (vo', bl', sz', pe', pl', to', hi', e9) ∧ pl'.length ≤ place.length ∧ Rd (New w0) w' (.slice p pl'.length c) (.ns .i64 pl') ∧ Below w0.heap.size w0 w' := by
 refine (rnew_any kd vo bl sz pe to at0 ix place pp pi cp ni ci w0 h0 hn).mono ?_
 rintro e w' (⟨hN, p, c, rfl, h1, h2⟩ | ⟨hN, rfl, h2⟩)
 · exact ⟨_, _, _, _, place, _, _, _, p, c, rfl, by rw [newQ, if_pos hN], Nat.le_refl _, h1, h2⟩
 · exact ⟨0, 0, 0, 0, [], 0, false, 23, none, 0, rfl, by rw [newQ, if_neg hN], Nat.zero_le _, Rd.nilN _ _ .i64 none, h2⟩
theorem rlow_nn (vo bl sz pe to ne fl : Int) (hi : Bool) (pins : List Int) (ws : List (Int × List (Int × List Int))) (pp pn pw : Option Addr) (np cp cn9 cw nn : Nat) (w0 : World) (h1 : Rd (fun _ => True) w0 (.slice pn pins.length cn9) (.ns .i64 pins)) (hp : pins.length ≤ 1000000) (hnn : nn = ws.length := by simp) :
   Calls Try.prog 23 #[.agg #[.int .i64 vo, .int .i64 bl, .int .i64 sz, .int .i64 pe, .slice pp np cp, .int .i64 to, .int .i64 ne, .bool hi, .int .i64 fl, .slice pn pins.length cn9, .slice pw nn cw]] w0 fun e w' => e = .returned (.int .i64 (lowL ws.length pins)) ∧ Below w0.heap.size w0 w' := by
 subst hnn; exact rlow_any vo bl sz pe to ne fl hi pins pp pn pw np cp cn9 ws.length cw w0 h1 hp
theorem plays_walk (kd0 vo0 bl0 sz0 pe0 to0 at9 ix0 : Int) (place0 : List Int) (items0 : List (Int × List Int)) (pp0 pi0 : Option Addr) (cp0 ci0 ni0 : Nat) (q0 q1 q2 q3 : Int) (l : List (Int × Int × Int × Int)) (pl : Option Addr) (cl : Nat) (raw : List RC) (pr : Option Addr) (cr : Nat) (w0 : World)
   (h30 : Rd (fun _ => True) w0 (.slice pp0 place0.length cp0) (.ns .i64 place0)) (h31 : Rd (fun _ => True) w0 (.slice pi0 ni0 ci0) (.l 2 (items0.map itD))) (hi0 : items0.length ≤ 140737488351232) (hq0 : 0 ≤ q0 ∧ q0 ≤ 255) (hq1 : 0 ≤ q1 ∧ q1 ≤ 255) (hq2 : 0 ≤ q2 ∧ q2 ≤ 255) (hq3 : 0 ≤ q3 ∧ q3 ≤ 255)
   (h7 : Rd (fun _ => True) w0 (.slice pl l.length cl) (.l 4 (l.map f4))) (hlb : ∀ x ∈ l, (0 ≤ x.1 ∧ x.1 ≤ 255) ∧ (0 ≤ x.2.1 ∧ x.2.1 ≤ 255) ∧ (0 ≤ x.2.2.1 ∧ x.2.2.1 ≤ 255) ∧ 0 ≤ x.2.2.2 ∧ x.2.2.2 ≤ 255) (h8 : Rd (fun _ => True) w0 (.slice pr raw.length cr) (.l 10 (raw.map cmdD))) (hrb9 : ∀ c ∈ raw, c.its.length ≤ 140737488351232) :
   Calls Try.prog 3 #[.agg #[.int .i64 kd0, .int .i64 vo0, .int .i64 bl0, .int .i64 sz0, .int .i64 pe0, .slice pp0 place0.length cp0, .int .i64 to0, .int .i64 at9, .int .i64 ix0, .slice pi0 ni0 ci0], .agg #[.int .u8 q0, .int .u8 q1, .int .u8 q2, .int .u8 q3], .slice pl l.length cl, .slice pr raw.length cr] w0 fun e w' => e = .returned (.bool true) ∧ Below w0.heap.size w0 w' := by
 refine enter (fn := Try.f3) Try.func3 rfl Try.ntmps3 rfl (fun a0 ha0 => ?_)
 simp only [List.zipIdx_cons, List.zipIdx_nil, List.map_cons, List.map_nil, Nat.reduceAdd, Nat.zero_add] at ha0
 have m0 := ((((MemOk.start (fun _ => True) w0).dat 7 rfl (h7.cast (fun _ _ => (free_nil (fun _ => trivial))))).dat 8 rfl (h8.cast (fun _ _ => (free_add rfl (free_nil (fun _ => trivial)))))).dat 30 rfl (h30.cast (fun _ _ => (free_add rfl (free_add rfl (free_nil (fun _ => trivial))))))).dat 31 rfl (h31.cast (fun _ _ => (free_add rfl (free_add rfl (free_add rfl (free_nil (fun _ => trivial)))))))
 obtain ⟨to, hto, hto0, hto3⟩ : ∃ x : Int, (q0 / 4).tmod 4 = x ∧ 0 ≤ x ∧ x ≤ 3 := ⟨_, rfl, by rw [Int.tmod_eq_emod_of_nonneg (by omega)]; omega, by rw [Int.tmod_eq_emod_of_nonneg (by omega)]; omega⟩
 refine wp_seq_k (fun K0 hK0 => ?_)
 refine wp_region_lit ?_
 refine wpList_plain rfl (fun K hK => ?_)
 refine e_box ha0 m0 60 (cs := [_, _, _, _, _, _, _, _, _, _]) rfl rfl rfl ?_
 clear ha0 a0 m0; intro g1 a2 w2 ha2 m2 hB2 hg2
 clear hB2 hg2
 refine hK _ _ ?_; clear hK K
 refine wpList_plain rfl (fun K hK => ?_)
 refine e_box ha2 m2 61 (cs := [_, _, _, _]) rfl rfl rfl ?_
 clear ha2 a2 m2; intro g3 a4 w4 ha4 m4 hB4 hg4
 clear hB4 hg4
 refine hK _ _ ?_; clear hK K
 refine st_y ha4 rfl (y_assign ha4 rfl) ?_
 clear ha4 a4; intro a5 ha5
 refine wpList_nil ?_
 refine hK0 _ _ ?_; clear hK0; try clear K0
 refine wp_seq_k (fun K1 hK1 => ?_)
 refine wp_seq_k (fun K2 hK2 => ?_)
 refine wp_region_lit ?_
 refine wpList_plain rfl (fun K hK => ?_)
 refine e_call ha5 Try.func9 rfl rfl rfl rfl (vknown_any _) ?_
 rintro e w6 ⟨rfl, hb6⟩
 have m7 := m4.later hb6
 clear m4
 clear hb6
 refine ⟨_, rfl, fun a8 ha8 => ?_⟩; clear ha5 a5
 refine hK _ _ ?_; clear hK K
 refine st_y ha8 rfl (y_not ha8 rfl) ?_
 clear ha8 a8; intro a9 ha9
 refine wpList_nil ?_
 refine hK2 _ _ ?_; clear hK2; try clear K2
 refine wp_cond_false (ha9.ev (x := .tmp 23) rfl) ?_
 refine wp_skip ?_
 refine hK1 _ _ ?_; clear hK1; try clear K1
 refine wp_seq_k (fun K3 hK3 => ?_)
 refine wp_seq_k (fun K4 hK4 => ?_)
 refine wp_region_lit ?_
 refine st_y ha9 rfl (y_loadBR ha9 m7 (i := 60) rfl rfl Try.underlying25 rfl sz25vp (by simp) (by dsimp only [List.drop, List.take] <;> rfl)) ?_
 clear ha9 a9; intro a10 ha10
 refine wpList_plain rfl (fun K hK => ?_)
 refine e_call ha10 Try.func10 rfl rfl rfl rfl (smallC_any _ _ _ _ _ _ _ _ place0 items0 _ _ _ _ _ _ ((m7.rd (i := 30) rfl).any) ((m7.rd (i := 31) rfl).any) (by omega)) ?_
 rintro e w11 ⟨sb, rfl, hsb, hb11⟩
 have m12 := m7.later hb11
 clear m7
 clear hb11
 refine ⟨_, rfl, fun a13 ha13 => ?_⟩; clear ha10 a10
 refine hK _ _ ?_; clear hK K
 refine st_y ha13 rfl (y_not ha13 rfl) ?_
 clear ha13 a13; intro a14 ha14
 refine st_y ha14 rfl (y_move ha14 rfl) ?_
 clear ha14 a14; intro a15 ha15
 refine bool_cases ha15 (t := 27) rfl (fun hb16 ha16 => ?_) (fun hb16 ha16 => ?_)
 ·
  clear ha15
  try simp only [Q1x, Q2x, Q3x, Q4x, Q5x, Q6x, Q7x, Q8x, Q9x, Q0x, Qax, Qbx] at hb16
  refine st_skip ha16 rfl rfl rfl rfl ?_
  clear ha16 a15; intro a17 ha17
  refine st_skip ha17 rfl rfl rfl rfl ?_
  clear ha17 a17; intro a18 ha18
  refine st_skip ha18 rfl rfl rfl rfl ?_
  clear ha18 a18; intro a19 ha19
  refine st_y ha19 rfl (y_pickT ha19 rfl rfl) ?_
  clear ha19 a19; intro a20 ha20
  refine st_y ha20 rfl (y_move ha20 rfl) ?_
  clear ha20 a20; intro a21 ha21
  refine st_skip ha21 rfl rfl rfl rfl ?_
  clear ha21 a21; intro a22 ha22
  refine st_skip ha22 rfl rfl rfl rfl ?_
  clear ha22 a22; intro a23 ha23
  refine st_skip ha23 rfl rfl rfl rfl ?_
  clear ha23 a23; intro a24 ha24
  refine st_y ha24 rfl (y_pickT ha24 rfl rfl) ?_
  clear ha24 a24; intro a25 ha25
  refine wpList_nil ?_
  refine hK4 _ _ ?_; clear hK4; try clear K4
  refine wp_cond_true (ha25.ev (x := .tmp 36) rfl) ?_
  refine wp_seq_k (fun K5 hK5 => ?_)
  have ha26 : Has 163 [(2, _), (3, _), (4, _), (5, _), (8, _)] a25 := ha25.only [2, 3, 4, 5, 8]; clear ha25
  refine wp_region_lit ?_
  refine st_y ha26 rfl (y_assign ha26 rfl) ?_
  clear ha26 a25; intro a27 ha27
  refine wpList_nil ?_
  refine hK5 _ _ ?_; clear hK5; try clear K5
  refine wp_ret ?_
  try dsimp only [Exit.then, Exit.inBlock]
  refine (ret1 (fn := Try.f3) ha27 rfl rfl ?_)
  exact ⟨rfl, m12.below⟩
 ·
  clear ha15
  try simp only [Q1x, Q2x, Q3x, Q4x, Q5x, Q6x, Q7x, Q8x, Q9x, Q0x, Qax, Qbx] at hb16
  have hsm0 := hsb (by simp_all)
  have hpl0 : place0.length ≤ 1000000 := by omega
  refine st_g ha16 rfl rfl rfl rfl (y_move ha16 rfl) ?_
  clear ha16 a15; intro a28 ha28
  refine st_g ha28 rfl rfl rfl rfl (y_len ha28 rfl Try.underlying27) ?_
  clear ha28 a28; intro a29 ha29
  refine st_g ha29 rfl rfl rfl rfl (y_gtr ha29 rfl rfl) ?_
  clear ha29 a29; intro a30 ha30
  refine st_y ha30 rfl (y_pickF ha30 rfl rfl) ?_
  clear ha30 a30; intro a31 ha31
  refine st_y ha31 rfl (y_move ha31 rfl) ?_
  clear ha31 a31; intro a32 ha32
  refine bool_cases ha32 (t := 32) rfl (fun hb33 ha33 => ?_) (fun hb33 ha33 => ?_)
  ·
   clear ha32
   try simp only [Q1x, Q2x, Q3x, Q4x, Q5x, Q6x, Q7x, Q8x, Q9x, Q0x, Qax, Qbx] at hb33
   refine st_skip ha33 rfl rfl rfl rfl ?_
   clear ha33 a32; intro a34 ha34
   refine st_skip ha34 rfl rfl rfl rfl ?_
   clear ha34 a34; intro a35 ha35
   refine st_skip ha35 rfl rfl rfl rfl ?_
   clear ha35 a35; intro a36 ha36
   refine st_y ha36 rfl (y_pickT ha36 rfl rfl) ?_
   clear ha36 a36; intro a37 ha37
   refine wpList_nil ?_
   refine hK4 _ _ ?_; clear hK4; try clear K4
   refine wp_cond_true (ha37.ev (x := .tmp 36) rfl) ?_
   refine wp_seq_k (fun K6 hK6 => ?_)
   have ha38 : Has 163 [(2, _), (3, _), (4, _), (5, _), (8, _)] a37 := ha37.only [2, 3, 4, 5, 8]; clear ha37
   refine wp_region_lit ?_
   refine st_y ha38 rfl (y_assign ha38 rfl) ?_
   clear ha38 a37; intro a39 ha39
   refine wpList_nil ?_
   refine hK6 _ _ ?_; clear hK6; try clear K6
   refine wp_ret ?_
   try dsimp only [Exit.then, Exit.inBlock]
   refine (ret1 (fn := Try.f3) ha39 rfl rfl ?_)
   exact ⟨rfl, m12.below⟩
  ·
   clear ha32
   try simp only [Q1x, Q2x, Q3x, Q4x, Q5x, Q6x, Q7x, Q8x, Q9x, Q0x, Qax, Qbx] at hb33
   refine st_g ha33 rfl rfl rfl rfl (y_move ha33 rfl) ?_
   clear ha33 a32; intro a40 ha40
   refine st_g ha40 rfl rfl rfl rfl (y_len ha40 rfl Try.underlying28) ?_
   clear ha40 a40; intro a41 ha41
   refine st_g ha41 rfl rfl rfl rfl (y_gtr ha41 rfl rfl) ?_
   clear ha41 a41; intro a42 ha42
   refine st_y ha42 rfl (y_pickF ha42 rfl rfl) ?_
   clear ha42 a42; intro a43 ha43
   refine wpList_nil ?_
   refine hK4 _ _ ?_; clear hK4; try clear K4
   refine bool_cases ha43 (t := 36) rfl (fun hb44 ha44 => ?_) (fun hb44 ha44 => ?_)
   ·
    clear ha43
    try simp only [Q1x, Q2x, Q3x, Q4x, Q5x, Q6x, Q7x, Q8x, Q9x, Q0x, Qax, Qbx] at hb44
    refine wp_cond_true (ha44.ev (x := .tmp 36) rfl) ?_
    refine wp_seq_k (fun K7 hK7 => ?_)
    have ha45 : Has 163 [(2, _), (3, _), (4, _), (5, _), (8, _)] a43 := ha44.only [2, 3, 4, 5, 8]; clear ha44
    refine wp_region_lit ?_
    refine st_y ha45 rfl (y_assign ha45 rfl) ?_
    clear ha45 a43; intro a46 ha46
    refine wpList_nil ?_
    refine hK7 _ _ ?_; clear hK7; try clear K7
    refine wp_ret ?_
    try dsimp only [Exit.then, Exit.inBlock]
    refine (ret1 (fn := Try.f3) ha46 rfl rfl ?_)
    exact ⟨rfl, m12.below⟩
   ·
    clear ha43
    try simp only [Q1x, Q2x, Q3x, Q4x, Q5x, Q6x, Q7x, Q8x, Q9x, Q0x, Qax, Qbx] at hb44
    refine wp_cond_false (ha44.ev (x := .tmp 36) rfl) ?_
    refine wp_skip ?_
    refine hK3 _ _ ?_; clear hK3; try clear K3
    refine wp_seq_k (fun K8 hK8 => ?_)
    have ha47 : Has 163 [(2, _), (3, _), (4, _), (5, _), (8, _)] a43 := ha44.only [2, 3, 4, 5, 8]; clear ha44
    refine wp_region_lit ?_
    refine st_y ha47 rfl (y_loadBR ha47 m12 (i := 60) rfl rfl Try.underlying25 rfl sz25vp (by simp) (by dsimp only [List.drop, List.take] <;> rfl)) ?_
    clear ha47 a43; intro a48 ha48
    refine wpList_plain rfl (fun K hK => ?_)
    refine e_call ha48 Try.func11 rfl rfl rfl rfl (vnew_q _ _ _ _ _ _ _ _ place0 _ _ _ _ _ _ ((m12.rd (i := 30) rfl).any) hpl0) ?_
    rintro e w49 ⟨vo7, bl7, sz7, pe7, pl7, to7, hi7, e7, p49, c49, rfl, hQ7, hpl7, hd49, hb49⟩
    have m50 := m12.callF 62 rfl hb49 hd49
    clear m12
    clear hb49 hd49
    refine ⟨_, rfl, fun a51 ha51 => ?_⟩; clear ha48 a48
    refine hK _ _ ?_; clear hK K
    refine st_y ha51 rfl (y_move ha51 rfl) ?_
    clear ha51 a51; intro a52 ha52
    refine st_y ha52 rfl (y_extract ha52 rfl rfl) ?_
    clear ha52 a52; intro a53 ha53
    refine st_y ha53 rfl (y_extract ha53 rfl rfl) ?_
    clear ha53 a53; intro a54 ha54
    refine wpList_plain rfl (fun K hK => ?_)
    refine e_alloc ha54 m50 63 zc34vp rfl ?_
    clear ha54 a54 m50; intro g55 a56 w56 ha56 m56 hB56 hg56
    clear hB56 hg56
    refine hK _ _ ?_; clear hK K
    refine wpList_plain rfl (fun K hK => ?_)
    refine e_storeW ha56 m56 63 rfl rfl rfl rfl rfl sz34vp ?_
    clear m56; intro w57 m57 hB57
    clear hB57
    refine hK _ _ ?_; clear hK K
    refine st_y ha56 rfl (y_assign ha56 rfl) ?_
    clear ha56 a56; intro a58 ha58
    refine wpList_nil ?_
    refine hK8 _ _ ?_; clear hK8; try clear K8
    refine wp_seq_k (fun K9 hK9 => ?_)
    refine wp_region_lit ?_
    refine st_y ha58 rfl (y_loadBR ha58 m57 (i := 60) rfl rfl Try.underlying25 rfl sz25vp (by simp) (by dsimp only [List.drop, List.take] <;> rfl)) ?_
    clear ha58 a58; intro a59 ha59
    refine wpList_plain rfl (fun K hK => ?_)
    refine e_call ha59 Try.func12 rfl rfl rfl rfl (rnew_q _ _ _ _ _ _ _ _ place0 _ _ _ _ _ _ ((m57.rd (i := 30) rfl).any) hpl0) ?_
    rintro e w60 ⟨vo8, bl8, sz8, pe8, pl8, to8, hi8, e8, p60, c60, rfl, hQ8, hpl8, hd60, hb60⟩
    have m61 := m57.callF 64 rfl hb60 hd60
    clear m57
    clear hb60 hd60
    refine ⟨_, rfl, fun a62 ha62 => ?_⟩; clear ha59 a59
    refine hK _ _ ?_; clear hK K
    obtain ⟨rfl, rfl, rfl, rfl, rfl, rfl, rfl, rfl⟩ : vo7 = vo8 ∧ bl7 = bl8 ∧ sz7 = sz8 ∧ pe7 = pe8 ∧ pl7 = pl8 ∧ to7 = to8 ∧ hi7 = hi8 ∧ e7 = e8 := by have h9 := hQ7.symm.trans hQ8; simp only [Prod.mk.injEq] at h9; exact h9
    refine st_y ha62 rfl (y_move ha62 rfl) ?_
    clear ha62 a62; intro a63 ha63
    refine st_y ha63 rfl (y_extract ha63 rfl rfl) ?_
    clear ha63 a63; intro a64 ha64
    refine st_y ha64 rfl (y_extract ha64 rfl rfl) ?_
    clear ha64 a64; intro a65 ha65
    refine wpList_plain rfl (fun K hK => ?_)
    refine e_alloc ha65 m61 65 zc34vp rfl ?_
    clear ha65 a65 m61; intro g66 a67 w67 ha67 m67 hB67 hg67
    clear hB67 hg67
    refine hK _ _ ?_; clear hK K
    refine wpList_plain rfl (fun K hK => ?_)
    refine e_storeW ha67 m67 65 rfl rfl rfl rfl rfl sz34vp ?_
    clear m67; intro w68 m68 hB68
    clear hB68
    refine hK _ _ ?_; clear hK K
    refine st_y ha67 rfl (y_assign ha67 rfl) ?_
    clear ha67 a67; intro a69 ha69
    refine wpList_nil ?_
    refine hK9 _ _ ?_; clear hK9; try clear K9
    refine wp_seq_k (fun K10 hK10 => ?_)
    have hC10 : ∀ (a : Act) (w : World), (∃ B5 : Nat, Has 163 [(2, .slice pl l.length cl), (3, .slice pr raw.length cr), (5, .pointer (some ⟨B5, 0, none⟩))] a ∧ MemOk (cx (fun _ => True) w0) w0 [(5, .box B5 26 [.int .u8 q0, .int .u8 q1, .int .u8 q2, .int .u8 q3]), (7, .dat (.slice pl l.length cl) (.l 4 (l.map f4))), (8, .dat (.slice pr raw.length cr) (.l 10 (raw.map cmdD)))] w) → K10 a w := by
      clear ha69 m68
      rintro a70 w70 ⟨B5, ha70, m70⟩
      refine hK10 _ _ ?_; clear hK10; try clear K10
      refine wp_seq_k (fun K11 hK11 => ?_)
      refine wp_region_lit ?_
      refine st_y ha70 rfl (y_idxA ha70 rfl rfl Try.underlying26 sz5vp 0 rfl (by decide) (off := 0) rfl) ?_
      clear ha70 a70; intro a71 ha71
      refine st_y ha71 rfl (y_loadB1 ha71 m70 (i := 5) rfl rfl rfl Try.underlying5 rfl) ?_
      clear ha71 a71; intro a72 ha72
      refine st_y ha72 rfl (y_idxA ha72 rfl rfl Try.underlying26 sz5vp 1 rfl (by decide) (off := 1) rfl) ?_
      clear ha72 a72; intro a73 ha73
      refine st_y ha73 rfl (y_loadB1 ha73 m70 (i := 5) rfl rfl rfl Try.underlying5 rfl) ?_
      clear ha73 a73; intro a74 ha74
      refine st_y ha74 rfl (y_idxA ha74 rfl rfl Try.underlying26 sz5vp 2 rfl (by decide) (off := 2) rfl) ?_
      clear ha74 a74; intro a75 ha75
      refine st_y ha75 rfl (y_loadB1 ha75 m70 (i := 5) rfl rfl rfl Try.underlying5 rfl) ?_
      clear ha75 a75; intro a76 ha76
      refine st_y ha76 rfl (y_idxA ha76 rfl rfl Try.underlying26 sz5vp 3 rfl (by decide) (off := 3) rfl) ?_
      clear ha76 a76; intro a77 ha77
      refine st_y ha77 rfl (y_loadB1 ha77 m70 (i := 5) rfl rfl rfl Try.underlying5 rfl) ?_
      clear ha77 a77; intro a78 ha78
      refine st_y ha78 rfl (y_idxA ha78 rfl rfl Try.underlying26 sz5vp 0 rfl (by decide) (off := 0) rfl) ?_
      clear ha78 a78; intro a79 ha79
      refine st_y ha79 rfl (y_loadB1 ha79 m70 (i := 5) rfl rfl rfl Try.underlying5 rfl) ?_
      clear ha79 a79; intro a80 ha80
      refine st_y ha80 rfl (y_quo ha80 rfl rfl (by decide) (r := q0 / 4) (by rw [Int.tdiv_eq_ediv_of_nonneg (by omega)]; exact IntWalk.u8_in _ (by omega))) ?_
      clear ha80 a80; intro a81 ha81
      refine st_y ha81 rfl (y_rem ha81 rfl rfl (by decide) (r := to) hto) ?_
      clear ha81 a81; intro a82 ha82
      refine st_y ha82 rfl (y_conv ha82 rfl Try.underlying5 Try.underlying3 (r := to) (IntWalk.i64_in _ (by omega))) ?_
      clear ha82 a82; intro a83 ha83
      refine wpList_plain rfl (fun K hK => ?_)
      refine e_call ha83 Try.func14 rfl rfl rfl rfl (create_any q0 q1 q2 q3 to _ hq0 hq1 hq2 hq3) ?_
      rintro e w84 ⟨bl, sz9, pe, place, p84, c84, rfl, hbl1, hbl9, hsz1, hsz3, hpe1, hpeb, hplc, hpl9, hd84, hb84⟩
      obtain ⟨z, rfl⟩ : ∃ z : Nat, sz9 = (z : Int) := ⟨sz9.toNat, by omega⟩
      have m85 := m70.callF 100 rfl hb84 hd84
      clear m70
      clear hb84 hd84
      refine ⟨_, rfl, fun a86 ha86 => ?_⟩; clear ha83 a83
      refine hK _ _ ?_; clear hK K
      have hvm : 0 ≤ (q0 : Int).tmod 3 ∧ (q0 : Int).tmod 3 ≤ 2 := by rw [Int.tmod_eq_emod_of_nonneg (by omega)]; omega
      obtain ⟨vo, hvo⟩ : ∃ x, (q0 : Int).tmod 3 = x := ⟨_, rfl⟩
      rw [hvo] at hvm ha86
      have hN : NewOk vo bl z pe to place := ⟨by omega, by omega, by omega, by omega, by omega, by omega, by omega, by omega, hplc, by omega, by omega⟩
      refine wpList_plain rfl (fun K hK => ?_)
      refine e_call ha86 Try.func12 rfl rfl rfl rfl (rnew_yes _ vo bl z pe to _ _ place _ _ _ _ _ _ ((m85.rd (i := 100) rfl).any) (by omega) hN) ?_
      rintro e w87 ⟨p87, c87, rfl, hd87, hb87⟩
      have m88 := m85.callF 101 rfl hb87 hd87
      clear m85
      clear hb87 hd87
      refine ⟨_, rfl, fun a89 ha89 => ?_⟩; clear ha86 a86
      refine hK _ _ ?_; clear hK K
      refine st_y ha89 rfl (y_move ha89 rfl) ?_
      clear ha89 a89; intro a90 ha90
      refine st_y ha90 rfl (y_extract ha90 rfl rfl) ?_
      clear ha90 a90; intro a91 ha91
      refine st_y ha91 rfl (y_extract ha91 rfl rfl) ?_
      clear ha91 a91; intro a92 ha92
      refine wpList_plain rfl (fun K hK => ?_)
      refine e_alloc ha92 m88 102 zc34vp rfl ?_
      clear ha92 a92 m88; intro g93 a94 w94 ha94 m94 hB94 hg94
      clear hB94 hg94
      refine hK _ _ ?_; clear hK K
      refine wpList_plain rfl (fun K hK => ?_)
      refine e_storeW ha94 m94 102 rfl rfl rfl rfl rfl sz34vp ?_
      clear m94; intro w95 m95 hB95
      clear hB95
      refine hK _ _ ?_; clear hK K
      refine st_y ha94 rfl (y_assign ha94 rfl) ?_
      clear ha94 a94; intro a96 ha96
      refine wpList_nil ?_
      refine hK11 _ _ ?_; clear hK11; try clear K11
      refine wp_seq_k (fun K12 hK12 => ?_)
      have ha97 : Has 163 [(2, _), (3, _), (13, _)] a96 := ha96.only [2, 3, 13]; clear ha96
      refine wp_region_lit ?_
      refine st_y ha97 rfl (y_loadBR ha97 m95 (i := 102) rfl rfl Try.underlying34 rfl sz34vp (by simp) (by dsimp only [List.drop, List.take] <;> rfl)) ?_
      clear ha97 a96; intro a98 ha98
      refine wpList_plain rfl (fun K hK => ?_)
      refine e_alloc ha98 m95 103 zc34vp rfl ?_
      clear ha98 a98 m95; intro g99 a100 w100 ha100 m100 hB100 hg100
      clear hB100 hg100
      refine hK _ _ ?_; clear hK K
      refine wpList_plain rfl (fun K hK => ?_)
      refine e_storeW ha100 m100 103 rfl rfl rfl rfl rfl sz34vp ?_
      clear m100; intro w101 m101 hB101
      clear hB101
      refine hK _ _ ?_; clear hK K
      refine wpList_nil ?_
      refine hK12 _ _ ?_; clear hK12; try clear K12
      refine wp_seq_k (fun K13 hK13 => ?_)
      refine wp_seq_k (fun K14 hK14 => ?_)
      refine wp_region_lit ?_
      refine st_y ha100 rfl (y_assign ha100 rfl) ?_
      clear ha100 a100; intro a102 ha102
      refine wpList_nil ?_
      refine hK14 _ _ ?_; clear hK14; try clear K14
      refine wp_block ?_
      have m103 := m101.dat 104 rfl (Rd.nilN _ _ .i64 none); clear m101
      have m104 := m103.dat 105 rfl (Rd.l0 none 0 2); clear m103
      have m105 := m104.dat 106 rfl (m104.rd (i := 101) rfl); clear m104
      have m106 := m105.dat 107 rfl (Rd.nilN _ _ .i64 none); clear m105
      have m107 := m106.dat 108 rfl (Rd.l0 none 0 2); clear m106
      refine wp_loop_ghost (fun g a w => ∃ (i B13 B15 : Nat) (ne fl : Int) (hi : Bool) (pins : List Int) (ws : List (Int × List (Int × List Int))) (p1 : Option Addr) (d1 : Nat) (p2 : Option Addr) (d2 : Nat) (p3 : Option Addr) (d3 : Nat) (p4 : Option Addr) (d4 : Nat) (p5 : Option Addr) (d5 : Nat) (p6 : Option Addr) (d6 : Nat), i ≤ l.length + raw.length ∧ g = l.length + raw.length - i ∧ VolR vo bl z pe to ne fl hi place pins ws ∧ (hi = true → pins = []) ∧ pins.length ≤ i ∧ ws.length ≤ i ∧ Has 163 [(2, .slice pl l.length cl), (3, .slice pr raw.length cr), (13, .pointer (some ⟨B13, 0, none⟩)), (15, .pointer (some ⟨B15, 0, none⟩)), (16, .int .i64 i)] a ∧ MemOk (cx (fun _ => True) w0) w0 [(13, .box B13 34 [.int .i64 vo, .int .i64 bl, .int .i64 (z : Int), .int .i64 pe, .slice p1 place.length d1, .int .i64 to, .int .i64 ne, .bool hi, .int .i64 fl, .slice p2 pins.length d2, .slice p3 (ws.map wrD).length d3]), (15, .box B15 34 [.int .i64 vo, .int .i64 bl, .int .i64 (z : Int), .int .i64 pe, .slice p4 place.length d4, .int .i64 to, .int .i64 ne, .bool hi, .int .i64 fl, .slice p5 pins.length d5, .slice p6 (ws.map wrD).length d6]), (1, .dat (.slice p1 place.length d1) (.ns .i64 place)), (2, .dat (.slice p2 pins.length d2) (.ns .i64 pins)), (3, .dat (.slice p3 (ws.map wrD).length d3) (.l 2 (ws.map wrD))), (4, .dat (.slice p4 place.length d4) (.ns .i64 place)), (5, .dat (.slice p5 pins.length d5) (.ns .i64 pins)), (6, .dat (.slice p6 (ws.map wrD).length d6) (.l 2 (ws.map wrD))), (7, .dat (.slice pl l.length cl) (.l 4 (l.map f4))), (8, .dat (.slice pr raw.length cr) (.l 10 (raw.map cmdD)))] w) (l.length + raw.length) ?_ ?_
      · exact ⟨0, _, _, _, _, _, [], [], _, _, _, _, _, _, _, _, _, _, _, _, Nat.zero_le _, rfl, VolR.new hN, (fun _ => rfl), Nat.le_refl _, Nat.le_refl _, ha102.only [2, 3, 13, 15, 16], m107.ren [(13, 102), (15, 103), (1, 101), (2, 104), (3, 105), (4, 106), (5, 107), (6, 108), (7, 7), (8, 8)] (by decide)⟩
      ·
       clear ha102 m107
       rintro g a108 w108 ⟨i, B13, B15, ne, fl, hi, pins, ws, p1, d1, p2, d2, p3, d3, p4, d4, p5, d5, p6, d6, hil, hg, hV, hh, hpi, hwi, ha108, m108⟩
       have hneb : 0 ≤ ne ∧ ne ≤ to := ⟨hV.2.1, hV.2.2.1⟩
       have hits := hV.its
       refine wp_seq_k (fun K15 hK15 => ?_)
       refine wp_seq_k (fun K16 hK16 => ?_)
       refine wp_region_lit ?_
       refine st_y ha108 rfl (y_move ha108 rfl) ?_
       clear ha108 a108; intro a109 ha109
       refine st_y ha109 rfl (y_move ha109 rfl) ?_
       clear ha109 a109; intro a110 ha110
       refine st_y ha110 rfl (y_len ha110 rfl Try.underlying27) ?_
       clear ha110 a110; intro a111 ha111
       refine st_y ha111 rfl (y_move ha111 rfl) ?_
       clear ha111 a111; intro a112 ha112
       refine st_y ha112 rfl (y_len ha112 rfl Try.underlying28) ?_
       clear ha112 a112; intro a113 ha113
       refine st_y ha113 rfl (y_add ha113 rfl rfl (r := ((l.length + raw.length : Nat) : Int)) (by rw [IntWalk.i64_in _ (by omega)]; omega)) ?_
       clear ha113 a113; intro a114 ha114
       refine st_y ha114 rfl (y_lss ha114 rfl rfl) ?_
       clear ha114 a114; intro a115 ha115
       refine wpList_nil ?_
       refine hK16 _ _ ?_; clear hK16; try clear K16
       refine bool_cases ha115 (t := 81) rfl (fun hb116 ha116 => ?_) (fun hb116 ha116 => ?_)
       ·
        clear ha115
        try simp only [Q1x, Q2x, Q3x, Q4x, Q5x, Q6x, Q7x, Q8x, Q9x, Q0x, Qax, Qbx] at hb116
        have hi9 : i < l.length + raw.length := by omega
        refine wp_cond_true (ha116.ev (x := .tmp 81) rfl) ?_
        refine wp_skip ?_
        refine hK15 _ _ ?_; clear hK15; try clear K15
        refine wp_seq_k (fun K17 hK17 => ?_)
        refine wp_block ?_
        refine wp_seq_k (fun K18 hK18 => ?_)
        have ha117 : Has 163 [(2, _), (3, _), (13, _), (15, _), (16, _)] a115 := ha116.only [2, 3, 13, 15, 16]; clear ha116
        refine wp_region_lit ?_
        refine wpList_plain rfl (fun K hK => ?_)
        refine e_alloc ha117 m108 200 zc25vp rfl ?_
        clear ha117 a115 m108; intro g118 a119 w119 ha119 m119 hB119 hg119
        clear hB119 hg119
        refine hK _ _ ?_; clear hK K
        refine wpList_nil ?_
        refine hK18 _ _ ?_; clear hK18; try clear K18
        refine wp_seq_k (fun K19 hK19 => ?_)
        have hC19 : ∀ (a : Act) (w : World), (∃ (kd vo2 bl2 sz2 pe2 to2 at0 ix : Int) (it : List (Int × List Int)) (q1 : Option Addr) (n1 c1 : Nat) (pi : Option Addr) (ci : Nat) (B13 B15 B17 : Nat), it.length ≤ 12 ∧ ItsOk it ∧ Has 163 [(2, .slice pl l.length cl), (3, .slice pr raw.length cr), (13, .pointer (some ⟨B13, 0, none⟩)), (15, .pointer (some ⟨B15, 0, none⟩)), (16, .int .i64 i), (17, .pointer (some ⟨B17, 0, none⟩))] a ∧ MemOk (cx (fun _ => True) w0) w0 [(17, .box B17 25 [.int .i64 kd, .int .i64 vo2, .int .i64 bl2, .int .i64 sz2, .int .i64 pe2, .slice q1 n1 c1, .int .i64 to2, .int .i64 at0, .int .i64 ix, .slice pi it.length ci]), (13, .box B13 34 [.int .i64 vo, .int .i64 bl, .int .i64 (z : Int), .int .i64 pe, .slice p1 place.length d1, .int .i64 to, .int .i64 ne, .bool hi, .int .i64 fl, .slice p2 pins.length d2, .slice p3 (ws.map wrD).length d3]), (15, .box B15 34 [.int .i64 vo, .int .i64 bl, .int .i64 (z : Int), .int .i64 pe, .slice p4 place.length d4, .int .i64 to, .int .i64 ne, .bool hi, .int .i64 fl, .slice p5 pins.length d5, .slice p6 (ws.map wrD).length d6]), (1, .dat (.slice p1 place.length d1) (.ns .i64 place)), (2, .dat (.slice p2 pins.length d2) (.ns .i64 pins)), (3, .dat (.slice p3 (ws.map wrD).length d3) (.l 2 (ws.map wrD))), (4, .dat (.slice p4 place.length d4) (.ns .i64 place)), (5, .dat (.slice p5 pins.length d5) (.ns .i64 pins)), (6, .dat (.slice p6 (ws.map wrD).length d6) (.l 2 (ws.map wrD))), (7, .dat (.slice pl l.length cl) (.l 4 (l.map f4))), (8, .dat (.slice pr raw.length cr) (.l 10 (raw.map cmdD))), (9, .dat (.slice pi it.length ci) (.l 2 (it.map itD)))] w) → K19 a w := by
          clear ha119 m119
          rintro a120 w120 ⟨kd, vo2, bl2, sz2, pe2, to2, at0, ix, it, q1, n1, c1, pi, ci, B13, B15, B17, hit12, hio, ha120, m120⟩
          refine hK19 _ _ ?_; clear hK19; try clear K19
          refine wp_seq_k (fun K20 hK20 => ?_)
          rcases kd3 kd with rfl | rfl | ⟨hk4, hk5⟩
          ·
           refine wp_region_lit ?_
           refine st_y ha120 rfl (y_loadBR ha120 m120 (i := 15) rfl rfl Try.underlying34 rfl sz34vp (by simp) (by dsimp only [List.drop, List.take] <;> rfl)) ?_
           clear ha120 a120; intro a121 ha121
           refine st_y ha121 rfl (y_loadBR ha121 m120 (i := 17) rfl rfl Try.underlying25 rfl sz25vp (by simp) (by dsimp only [List.drop, List.take] <;> rfl)) ?_
           clear ha121 a121; intro a122 ha122
           refine wpList_plain rfl (fun K hK => ?_)
           refine e_call ha122 Try.func16 rfl rfl rfl rfl (yDo4 _ vo bl z pe to ne fl hi place pins ws _ _ _ _ _ _ _ _ _ _ _ _ _ _ _ _ _ _ _ _ (by omega) (by omega) (by omega) hits.1 (m120.into [(1, 4), (2, 5), (3, 6)] (by decide) rfl)) ?_
           rintro e w123 ⟨pins1, e1, rl1, rf1, rn1, p1123, d1123, p2123, d2123, p3123, d3123, rfl, hR1, hr1, hm123⟩
           have mx123 := m120.back hm123 [(4, 1), (5, 2), (6, 3), (300, 5), (301, 6), (302, 7)] (by decide); clear hm123 m120
           have m123 : MemOk _ _ [(4, _), (5, _), (6, _), (300, _), (301, _), (302, _), (1, _), (2, _), (3, _), (7, _), (8, _), (9, _), (13, _), (15, _), (17, _)] _ := mx123.only [4, 5, 6, 300, 301, 302, 1, 2, 3, 7, 8, 9, 13, 15, 17]; clear mx123
           refine ⟨_, rfl, fun a124 ha124 => ?_⟩; clear ha122 a122
           refine hK _ _ ?_; clear hK K
           have m125 := m123.freezeSN 301 rfl (by simp [cx]); clear m123
           have m126 := m125.freezeS 302 rfl (by simp [cx]); clear m125
           refine st_y ha124 rfl (y_move ha124 rfl) ?_
           clear ha124 a124; intro a127 ha127
           refine st_y ha127 rfl (y_extract ha127 rfl rfl) ?_
           clear ha127 a127; intro a128 ha128
           refine st_y ha128 rfl (y_extract ha128 rfl rfl) ?_
           clear ha128 a128; intro a129 ha129
           refine wpList_plain rfl (fun K hK => ?_)
           refine e_alloc ha129 m126 303 zc34vp rfl ?_
           clear ha129 a129 m126; intro g130 a131 w131 ha131 m131 hB131 hg131
           clear hB131 hg131
           refine hK _ _ ?_; clear hK K
           refine wpList_plain rfl (fun K hK => ?_)
           refine e_alloc ha131 m131 304 zc45vp rfl ?_
           clear ha131 a131 m131; intro g132 a133 w133 ha133 m133 hB133 hg133
           clear hB133 hg133
           refine hK _ _ ?_; clear hK K
           refine wpList_plain rfl (fun K hK => ?_)
           refine e_storeW ha133 m133 303 rfl rfl rfl rfl rfl sz34vp ?_
           clear m133; intro w134 m134 hB134
           clear hB134
           refine hK _ _ ?_; clear hK K
           refine wpList_plain rfl (fun K hK => ?_)
           refine e_storeW ha133 m134 304 rfl rfl rfl rfl rfl sz45vp ?_
           clear m134; intro w135 m135 hB135
           clear hB135
           refine hK _ _ ?_; clear hK K
           refine wpList_nil ?_
           refine hK20 _ _ ?_; clear hK20; try clear K20
           refine wp_seq_k (fun K21 hK21 => ?_)
           have ha136 : Has 163 [(2, _), (3, _), (13, _), (15, _), (16, _), (17, _), (18, _), (19, _)] a133 := ha133.only [2, 3, 13, 15, 16, 17, 18, 19]; clear ha133
           refine wp_region_lit ?_
           refine st_y ha136 rfl (y_loadBR ha136 m135 (i := 13) rfl rfl Try.underlying34 rfl sz34vp (by simp) (by dsimp only [List.drop, List.take] <;> rfl)) ?_
           clear ha136 a133; intro a137 ha137
           refine st_y ha137 rfl (y_loadBR ha137 m135 (i := 17) rfl rfl Try.underlying25 rfl sz25vp (by simp) (by dsimp only [List.drop, List.take] <;> rfl)) ?_
           clear ha137 a137; intro a138 ha138
           refine wpList_plain rfl (fun K hK => ?_)
           refine e_call ha138 Try.func17 rfl rfl rfl rfl (rDo4 _ vo bl z pe to ne fl hi place pins ws _ _ _ _ _ _ _ _ _ _ _ _ _ _ _ _ _ _ _ _ (by omega) hV.sorted (m135.into [(1, 1), (2, 2), (3, 3)] (by decide) rfl)) ?_
           rintro e w139 ⟨pins2, e2, rl2, rf2, rn2, p2139, d2139, rfl, hR2, hr2, hm139⟩
           have mx139 := m135.back hm139 [(1, 1), (2, 2), (3, 3), (305, 6)] (by decide); clear hm139 m135
           have m139 : MemOk _ _ [(1, _), (2, _), (3, _), (305, _), (4, _), (5, _), (6, _), (7, _), (8, _), (9, _), (13, _), (15, _), (17, _), (300, _), (301, _), (302, _), (303, _), (304, _)] _ := mx139.only [1, 2, 3, 305, 4, 5, 6, 7, 8, 9, 13, 15, 17, 300, 301, 302, 303, 304]; clear mx139
           refine ⟨_, rfl, fun a140 ha140 => ?_⟩; clear ha138 a138
           refine hK _ _ ?_; clear hK K
           obtain ⟨rfl, rfl⟩ : pins1 = pins2 ∧ e1 = e2 := by have h9 := hR1.symm.trans hR2; simp only [Prod.mk.injEq] at h9; exact h9
           obtain ⟨hV2, hh2, hl2⟩ := hV.pin hh hR1
           obtain ⟨rfl, rfl, rfl⟩ := rep_eq hr1 hr2
           have hits := hV2.its
           refine st_y ha140 rfl (y_move ha140 rfl) ?_
           clear ha140 a140; intro a141 ha141
           refine st_y ha141 rfl (y_extract ha141 rfl rfl) ?_
           clear ha141 a141; intro a142 ha142
           refine st_y ha142 rfl (y_extract ha142 rfl rfl) ?_
           clear ha142 a142; intro a143 ha143
           refine wpList_plain rfl (fun K hK => ?_)
           refine e_alloc ha143 m139 306 zc34vp rfl ?_
           clear ha143 a143 m139; intro g144 a145 w145 ha145 m145 hB145 hg145
           clear hB145 hg145
           refine hK _ _ ?_; clear hK K
           refine wpList_plain rfl (fun K hK => ?_)
           refine e_alloc ha145 m145 307 zc45vp rfl ?_
           clear ha145 a145 m145; intro g146 a147 w147 ha147 m147 hB147 hg147
           clear hB147 hg147
           refine hK _ _ ?_; clear hK K
           refine wpList_plain rfl (fun K hK => ?_)
           refine e_storeW ha147 m147 306 rfl rfl rfl rfl rfl sz34vp ?_
           clear m147; intro w148 m148 hB148
           clear hB148
           refine hK _ _ ?_; clear hK K
           refine wpList_plain rfl (fun K hK => ?_)
           refine e_storeW ha147 m148 307 rfl rfl rfl rfl rfl sz45vp ?_
           clear m148; intro w149 m149 hB149
           clear hB149
           refine hK _ _ ?_; clear hK K
           refine wpList_nil ?_
           refine hK21 _ _ ?_; clear hK21; try clear K21
           refine wp_seq_k (fun K22 hK22 => ?_)
           refine wp_seq_k (fun K23 hK23 => ?_)
           have ha150 : Has 163 [(2, _), (3, _), (13, _), (15, _), (16, _), (18, _), (19, _), (20, _), (21, _)] a147 := ha147.only [2, 3, 13, 15, 16, 18, 19, 20, 21]; clear ha147
           have m151 : MemOk _ _ [(1, _), (2, _), (3, _), (4, _), (5, _), (6, _), (7, _), (8, _), (9, _), (13, _), (15, _), (17, _), (300, _), (301, _), (302, _), (303, _), (304, _), (305, _), (306, _), (307, _)] _ := m149.only [1, 2, 3, 4, 5, 6, 7, 8, 9, 13, 15, 17, 300, 301, 302, 303, 304, 305, 306, 307]; clear m149
           refine region_m 29 (B := [(1, _), (2, _), (3, _), (4, _), (5, _), (6, _), (7, _), (8, _), (9, _), (13, _), (15, _), (17, _), (300, _), (301, _), (302, _), (303, _), (304, _), (305, _), (306, _), (307, _)]) (m151.to ⟨il, il, il, il, il, il, il, il, il, il, il, il, il, il, il, il, il, il, il, il, trivial⟩) m151 (by kernel_rfl) (fun w152 mB152 m152 => ?_); clear m151 mB152
           refine dh 0 ha150 rfl rfl (m152.to ⟨il, il, il, il, il, il, il, il, il, il, il, il, il, il, il, il, il, il, il, il, trivial⟩) (fun W hW => y_loadBR ha150 hW (i := 304) rfl rfl Try.underlying45 rfl sz45vp (by simp) (by dsimp only [List.drop, List.take] <;> rfl)) ?_
           clear ha150 a147; intro a153 ha153
           refine dh 1 ha153 rfl rfl (m152.to ⟨il, il, il, il, il, il, il, il, il, il, il, il, il, il, il, il, il, il, il, il, trivial⟩) (fun W hW => y_loadBR ha153 hW (i := 307) rfl rfl Try.underlying45 rfl sz45vp (by simp) (by dsimp only [List.drop, List.take] <;> rfl)) ?_
           clear ha153 a153; intro a154 ha154
           refine stepE_only 2 rfl (by kernel_rfl) rfl (fun K hK => ?_)
           refine e_call ha154 Try.func18 rfl rfl rfl rfl (reply_any _ _ _ _ _) ?_
           rintro e w155 ⟨rfl, hb155⟩
           have m156 := m152.later hb155
           clear m152
           clear hb155
           refine ⟨_, rfl, fun a157 ha157 => ?_⟩; clear ha154 a154
           refine hK _ _ (m156.to ⟨il, il, il, il, il, il, il, il, il, il, il, il, il, il, il, il, il, il, il, il, trivial⟩) ?_; clear hK K
           refine dyn 3 ha157 rfl rfl (m156.to ⟨il, il, il, il, il, il, il, il, il, il, il, il, il, il, il, il, il, il, il, il, trivial⟩) (fun W => y_not ha157 rfl) ?_
           clear ha157 a157; intro a158 ha158
           refine dyn 4 ha158 rfl rfl (m156.to ⟨il, il, il, il, il, il, il, il, il, il, il, il, il, il, il, il, il, il, il, il, trivial⟩) (fun W => y_move ha158 rfl) ?_
           clear ha158 a158; intro a159 ha159
           refine dhg 5 ha159 rfl rfl rfl rfl rfl (m156.to ⟨il, il, il, il, il, il, il, il, il, il, il, il, il, il, il, il, il, il, il, il, trivial⟩) (fun W hW => y_loadBR ha159 hW (i := 303) rfl rfl Try.underlying34 rfl sz34vp (by simp) (by dsimp only [List.drop, List.take] <;> rfl)) ?_
           clear ha159 a159; intro a160 ha160
           refine dhg 6 ha160 rfl rfl rfl rfl rfl (m156.to ⟨il, il, il, il, il, il, il, il, il, il, il, il, il, il, il, il, il, il, il, il, trivial⟩) (fun W hW => y_loadBR ha160 hW (i := 306) rfl rfl Try.underlying34 rfl sz34vp (by simp) (by dsimp only [List.drop, List.take] <;> rfl)) ?_
           clear ha160 a160; intro a161 ha161
           refine stepE_only 7 rfl (by kernel_rfl) (wantedG ha161 rfl rfl rfl rfl) (fun K hK => ?_)
           refine e_call ha161 Try.func13 rfl rfl rfl rfl (rsame_any vo bl z pe to _ _ _ place _ _ _ _ _ _ _ _ _ _ _ _ _ _ _ _ _ (by omega) (by omega) (by omega) (fun e he => (hits.1 e he).1) ((m156.rd (i := 300) rfl).any) ((m156.rd (i := 301) rfl).any) ((m156.rd (i := 302) rfl).any) ((m156.rd (i := 1) rfl).any) ((m156.rd (i := 305) rfl).any) ((m156.rd (i := 3) rfl).any)) ?_
           rintro e w162 ⟨rfl, hb162⟩
           have m163 := m156.later hb162
           clear m156
           clear hb162
           refine ⟨_, rfl, fun a164 ha164 => ?_⟩; clear ha161 a161
           refine hK _ _ (m163.to ⟨il, il, il, il, il, il, il, il, il, il, il, il, il, il, il, il, il, il, il, il, trivial⟩) ?_; clear hK K
           refine dygn 8 ha164 rfl rfl rfl rfl rfl (m163.to ⟨il, il, il, il, il, il, il, il, il, il, il, il, il, il, il, il, il, il, il, il, trivial⟩) (fun W => y_not ha164 rfl) ?_
           clear ha164 a164; intro a165 ha165
           refine dyn 9 ha165 rfl rfl (m163.to ⟨il, il, il, il, il, il, il, il, il, il, il, il, il, il, il, il, il, il, il, il, trivial⟩) (fun W => y_pickF ha165 rfl rfl) ?_
           clear ha165 a165; intro a166 ha166
           refine dyn 10 ha166 rfl rfl (m163.to ⟨il, il, il, il, il, il, il, il, il, il, il, il, il, il, il, il, il, il, il, il, trivial⟩) (fun W => y_move ha166 rfl) ?_
           clear ha166 a166; intro a167 ha167
           refine dhg 11 ha167 rfl rfl rfl rfl rfl (m163.to ⟨il, il, il, il, il, il, il, il, il, il, il, il, il, il, il, il, il, il, il, il, trivial⟩) (fun W hW => y_loadBR ha167 hW (i := 303) rfl rfl Try.underlying34 rfl sz34vp (by simp) (by dsimp only [List.drop, List.take] <;> rfl)) ?_
           clear ha167 a167; intro a168 ha168
           refine stepE_only 12 rfl (by kernel_rfl) (wantedG ha168 rfl rfl rfl rfl) (fun K hK => ?_)
           refine e_call ha168 Try.func19 rfl rfl rfl rfl (vright_nn vo bl z pe to _ _ _ place _ _ _ _ _ _ _ _ _ _ ((m163.rd (i := 300) rfl).any) ((m163.rd (i := 301) rfl).any) ((m163.rd (i := 302) rfl).any) (by omega) (by omega) (by omega) (fun e he => (hits.1 e he).1)) ?_
           rintro e w169 ⟨rb, rfl, hrb, hb169⟩
           obtain rfl : rb = true := hrb.2 hV2
           have m170 := m163.later hb169
           clear m163
           clear hb169
           refine ⟨_, rfl, fun a171 ha171 => ?_⟩; clear ha168 a168
           refine hK _ _ (m170.to ⟨il, il, il, il, il, il, il, il, il, il, il, il, il, il, il, il, il, il, il, il, trivial⟩) ?_; clear hK K
           refine dygn 13 ha171 rfl rfl rfl rfl rfl (m170.to ⟨il, il, il, il, il, il, il, il, il, il, il, il, il, il, il, il, il, il, il, il, trivial⟩) (fun W => y_not ha171 rfl) ?_
           clear ha171 a171; intro a172 ha172
           refine dyn 14 ha172 rfl rfl (m170.to ⟨il, il, il, il, il, il, il, il, il, il, il, il, il, il, il, il, il, il, il, il, trivial⟩) (fun W => y_pickF ha172 rfl rfl) ?_
           clear ha172 a172; intro a173 ha173
           refine dyn 15 ha173 rfl rfl (m170.to ⟨il, il, il, il, il, il, il, il, il, il, il, il, il, il, il, il, il, il, il, il, trivial⟩) (fun W => y_move ha173 rfl) ?_
           clear ha173 a173; intro a174 ha174
           refine dhg 16 ha174 rfl rfl rfl rfl rfl (m170.to ⟨il, il, il, il, il, il, il, il, il, il, il, il, il, il, il, il, il, il, il, il, trivial⟩) (fun W hW => y_loadBR ha174 hW (i := 303) rfl rfl Try.underlying34 rfl sz34vp (by simp) (by dsimp only [List.drop, List.take] <;> rfl)) ?_
           clear ha174 a174; intro a175 ha175
           refine dhg 18 ha175 rfl rfl rfl rfl rfl (m170.to ⟨il, il, il, il, il, il, il, il, il, il, il, il, il, il, il, il, il, il, il, il, trivial⟩) (fun W hW => y_loadBR ha175 hW (i := 306) rfl rfl Try.underlying34 rfl sz34vp (by simp) (by dsimp only [List.drop, List.take] <;> rfl)) ?_
           clear ha175 a175; intro a176 ha176
           refine stepE_only 17 rfl (by kernel_rfl) (wantedG ha176 rfl rfl rfl rfl) (fun K hK => ?_)
           refine e_call ha176 Try.func20 rfl rfl rfl rfl (vlen_any _ _ _ _ _ _ _ _ _ _ _ _ _ _ _ _ _ _) ?_
           rintro e w177 ⟨rfl, hb177⟩
           have m178 := m170.later hb177
           clear m170
           clear hb177
           refine ⟨_, rfl, fun a179 ha179 => ?_⟩; clear ha176 a176
           refine hK _ _ (m178.to ⟨il, il, il, il, il, il, il, il, il, il, il, il, il, il, il, il, il, il, il, il, trivial⟩) ?_; clear hK K
           refine stepE_only 19 rfl (by kernel_rfl) (wantedG ha179 rfl rfl rfl rfl) (fun K hK => ?_)
           refine e_call ha179 Try.func21 rfl rfl rfl rfl (rlen_any _ _ _ _ _ _ _ _ _ _ _ _ _ _ _ _ _ _) ?_
           rintro e w180 ⟨rfl, hb180⟩
           have m181 := m178.later hb180
           clear m178
           clear hb180
           refine ⟨_, rfl, fun a182 ha182 => ?_⟩; clear ha179 a179
           refine hK _ _ (m181.to ⟨il, il, il, il, il, il, il, il, il, il, il, il, il, il, il, il, il, il, il, il, trivial⟩) ?_; clear hK K
           refine dygn 20 ha182 rfl rfl rfl rfl rfl (m181.to ⟨il, il, il, il, il, il, il, il, il, il, il, il, il, il, il, il, il, il, il, il, trivial⟩) (fun W => y_neq ha182 rfl rfl) ?_
           clear ha182 a182; intro a183 ha183
           refine dyn 21 ha183 rfl rfl (m181.to ⟨il, il, il, il, il, il, il, il, il, il, il, il, il, il, il, il, il, il, il, il, trivial⟩) (fun W => y_pickF ha183 rfl rfl) ?_
           clear ha183 a183; intro a184 ha184
           refine dyn 22 ha184 rfl rfl (m181.to ⟨il, il, il, il, il, il, il, il, il, il, il, il, il, il, il, il, il, il, il, il, trivial⟩) (fun W => y_move ha184 rfl) ?_
           clear ha184 a184; intro a185 ha185
           refine bool_cases ha185 (t := 154) rfl (fun hb186 ha186 => ?_) (fun hb186 ha186 => ?_)
           · exact absurd hb186 (by simp)
           clear ha185 hb186
           refine dhg 23 ha186 rfl rfl rfl rfl rfl (m181.to ⟨il, il, il, il, il, il, il, il, il, il, il, il, il, il, il, il, il, il, il, il, trivial⟩) (fun W hW => y_loadBR ha186 hW (i := 303) rfl rfl Try.underlying34 rfl sz34vp (by simp) (by dsimp only [List.drop, List.take] <;> rfl)) ?_
           clear ha186 a185; intro a187 ha187
           refine dhg 25 ha187 rfl rfl rfl rfl rfl (m181.to ⟨il, il, il, il, il, il, il, il, il, il, il, il, il, il, il, il, il, il, il, il, trivial⟩) (fun W hW => y_loadBR ha187 hW (i := 306) rfl rfl Try.underlying34 rfl sz34vp (by simp) (by dsimp only [List.drop, List.take] <;> rfl)) ?_
           clear ha187 a187; intro a188 ha188
           refine stepE_only 24 rfl (by kernel_rfl) (wantedG ha188 rfl rfl rfl rfl) (fun K hK => ?_)
           refine e_call ha188 Try.func22 rfl rfl rfl rfl (low_nn _ _ _ _ _ _ _ _ place pins1 ws _ _ _ _ _ _ _ _ ((m181.rd (i := 301) rfl).any) (by omega)) ?_
           rintro e w189 ⟨rfl, hb189⟩
           have m190 := m181.later hb189
           clear m181
           clear hb189
           refine ⟨_, rfl, fun a191 ha191 => ?_⟩; clear ha188 a188
           refine hK _ _ (m190.to ⟨il, il, il, il, il, il, il, il, il, il, il, il, il, il, il, il, il, il, il, il, trivial⟩) ?_; clear hK K
           refine stepE_only 26 rfl (by kernel_rfl) (wantedG ha191 rfl rfl rfl rfl) (fun K hK => ?_)
           refine e_call ha191 Try.func23 rfl rfl rfl rfl (rlow_nn _ _ _ _ _ _ _ _ pins1 ws _ _ _ _ _ _ _ _ _ ((m190.rd (i := 305) rfl).any) (by omega)) ?_
           rintro e w192 ⟨rfl, hb192⟩
           have m193 := m190.later hb192
           clear m190
           clear hb192
           refine ⟨_, rfl, fun a194 ha194 => ?_⟩; clear ha191 a191
           refine hK _ _ (m193.to ⟨il, il, il, il, il, il, il, il, il, il, il, il, il, il, il, il, il, il, il, il, trivial⟩) ?_; clear hK K
           refine dygn 27 ha194 rfl rfl rfl rfl rfl (m193.to ⟨il, il, il, il, il, il, il, il, il, il, il, il, il, il, il, il, il, il, il, il, trivial⟩) (fun W => y_neq ha194 rfl rfl) ?_
           clear ha194 a194; intro a195 ha195
           refine dyn 28 ha195 rfl rfl (m193.to ⟨il, il, il, il, il, il, il, il, il, il, il, il, il, il, il, il, il, il, il, il, trivial⟩) (fun W => y_pickF ha195 rfl rfl) ?_
           clear ha195 a195; intro a196 ha196
           refine wpAnyE_done (by kernel_rfl) ?_ _
           refine hK23 _ _ ?_; clear hK23; try clear K23
           refine bool_cases ha196 (t := 160) rfl (fun hb197 ha197 => ?_) (fun hb197 ha197 => ?_)
           · exact absurd hb197 (by simp)
           clear ha196 hb197
           refine wp_cond_false (ha197.ev (x := .tmp 160) rfl) ?_
           refine wp_skip ?_
           refine hK22 _ _ ?_; clear hK22; try clear K22
           have ha198 : Has 163 [(2, _), (3, _), (13, _), (15, _), (16, _), (18, _), (20, _)] a196 := ha197.only [2, 3, 13, 15, 16, 18, 20]; clear ha197
           have m199 : MemOk _ _ [(1, _), (2, _), (3, _), (4, _), (5, _), (6, _), (7, _), (8, _), (9, _), (13, _), (15, _), (17, _), (300, _), (301, _), (302, _), (303, _), (304, _), (305, _), (306, _), (307, _)] _ := m193.only [1, 2, 3, 4, 5, 6, 7, 8, 9, 13, 15, 17, 300, 301, 302, 303, 304, 305, 306, 307]; clear m193
           refine region_m 4 (B := [(306, _), (303, _)]) (m199.to ⟨il, il, trivial⟩) m199 (by kernel_rfl) (fun w200 mB200 m200 => ?_); clear m199 mB200
           refine dh 0 ha198 rfl rfl (m200.to ⟨il, il, trivial⟩) (fun W hW => y_loadBR ha198 hW (i := 306) rfl rfl Try.underlying34 rfl sz34vp (by simp) (by dsimp only [List.drop, List.take] <;> rfl)) ?_
           clear ha198 a196; intro a201 ha201
           refine dh 1 ha201 rfl rfl (m200.to ⟨il, il, trivial⟩) (fun W hW => y_loadBR ha201 hW (i := 303) rfl rfl Try.underlying34 rfl sz34vp (by simp) (by dsimp only [List.drop, List.take] <;> rfl)) ?_
           clear ha201 a201; intro a202 ha202
           refine stepE_only 2 rfl (by kernel_rfl) rfl (fun K hK => ?_)
           refine e_storeW ha202 m200 13 rfl rfl rfl rfl rfl sz34vp ?_
           clear m200; intro w203 m203 hB203
           clear hB203
           refine hK _ _ (m203.to ⟨il, il, trivial⟩) ?_; clear hK K
           refine stepE_only 3 rfl (by kernel_rfl) rfl (fun K hK => ?_)
           refine e_storeW ha202 m203 15 rfl rfl rfl rfl rfl sz34vp ?_
           clear m203; intro w204 m204 hB204
           clear hB204
           refine hK _ _ (m204.to ⟨il, il, trivial⟩) ?_; clear hK K
           refine wpAnyE_done (by kernel_rfl) ?_ _
           refine hK17 _ _ ?_; clear hK17; try clear K17
           refine wp_region_lit ?_
           refine st_y ha202 rfl (y_move ha202 rfl) ?_
           clear ha202 a202; intro a205 ha205
           refine st_y ha205 rfl (y_add ha205 rfl rfl (r := ((i + 1 : Nat) : Int)) (by rw [IntWalk.i64_in _ (by omega)]; omega)) ?_
           clear ha205 a205; intro a206 ha206
           refine st_y ha206 rfl (y_assign ha206 rfl) ?_
           clear ha206 a206; intro a207 ha207
           refine wpList_nil ?_
           show ∃ n', n' < _ ∧ _
           exact ⟨l.length + raw.length - (i + 1), by omega, i + 1, _, _, _, _, _, _, _, _, _, _, _, _, _, _, _, _, _, _, _, by omega, rfl, hV2, hh2, by omega, by omega, ha207.only [2, 3, 13, 15, 16], m204.ren [(13, 13), (15, 15), (1, 1), (2, 305), (3, 3), (4, 300), (5, 301), (6, 302), (7, 7), (8, 8)] (by decide)⟩
          ·
           refine wp_region_lit ?_
           refine st_y ha120 rfl (y_loadBR ha120 m120 (i := 15) rfl rfl Try.underlying34 rfl sz34vp (by simp) (by dsimp only [List.drop, List.take] <;> rfl)) ?_
           clear ha120 a120; intro a208 ha208
           refine st_y ha208 rfl (y_loadBR ha208 m120 (i := 17) rfl rfl Try.underlying25 rfl sz25vp (by simp) (by dsimp only [List.drop, List.take] <;> rfl)) ?_
           clear ha208 a208; intro a209 ha209
           refine wpList_plain rfl (fun K hK => ?_)
           refine e_call ha209 Try.func16 rfl rfl rfl rfl (yDo5 _ vo bl z pe to ne fl hi place pins ws _ _ _ _ _ _ _ _ _ _ _ _ _ _ _ _ _ _ _ _ (by omega) (by omega) (by omega) hits.1 (m120.into [(1, 4), (2, 5), (3, 6)] (by decide) rfl)) ?_
           rintro e w210 ⟨pins1, e1, rl1, rf1, rn1, p1210, d1210, p2210, d2210, p3210, d3210, rfl, hR1, hr1, hm210⟩
           have mx210 := m120.back hm210 [(4, 1), (5, 2), (6, 3), (300, 5), (301, 6), (302, 7)] (by decide); clear hm210 m120
           have m210 : MemOk _ _ [(4, _), (5, _), (6, _), (300, _), (301, _), (302, _), (1, _), (2, _), (3, _), (7, _), (8, _), (9, _), (13, _), (15, _), (17, _)] _ := mx210.only [4, 5, 6, 300, 301, 302, 1, 2, 3, 7, 8, 9, 13, 15, 17]; clear mx210
           refine ⟨_, rfl, fun a211 ha211 => ?_⟩; clear ha209 a209
           refine hK _ _ ?_; clear hK K
           have m212 := m210.freezeSN 301 rfl (by simp [cx]); clear m210
           have m213 := m212.freezeS 302 rfl (by simp [cx]); clear m212
           refine st_y ha211 rfl (y_move ha211 rfl) ?_
           clear ha211 a211; intro a214 ha214
           refine st_y ha214 rfl (y_extract ha214 rfl rfl) ?_
           clear ha214 a214; intro a215 ha215
           refine st_y ha215 rfl (y_extract ha215 rfl rfl) ?_
           clear ha215 a215; intro a216 ha216
           refine wpList_plain rfl (fun K hK => ?_)
           refine e_alloc ha216 m213 303 zc34vp rfl ?_
           clear ha216 a216 m213; intro g217 a218 w218 ha218 m218 hB218 hg218
           clear hB218 hg218
           refine hK _ _ ?_; clear hK K
           refine wpList_plain rfl (fun K hK => ?_)
           refine e_alloc ha218 m218 304 zc45vp rfl ?_
           clear ha218 a218 m218; intro g219 a220 w220 ha220 m220 hB220 hg220
           clear hB220 hg220
           refine hK _ _ ?_; clear hK K
           refine wpList_plain rfl (fun K hK => ?_)
           refine e_storeW ha220 m220 303 rfl rfl rfl rfl rfl sz34vp ?_
           clear m220; intro w221 m221 hB221
           clear hB221
           refine hK _ _ ?_; clear hK K
           refine wpList_plain rfl (fun K hK => ?_)
           refine e_storeW ha220 m221 304 rfl rfl rfl rfl rfl sz45vp ?_
           clear m221; intro w222 m222 hB222
           clear hB222
           refine hK _ _ ?_; clear hK K
           refine wpList_nil ?_
           refine hK20 _ _ ?_; clear hK20; try clear K20
           refine wp_seq_k (fun K24 hK24 => ?_)
           have ha223 : Has 163 [(2, _), (3, _), (13, _), (15, _), (16, _), (17, _), (18, _), (19, _)] a220 := ha220.only [2, 3, 13, 15, 16, 17, 18, 19]; clear ha220
           refine wp_region_lit ?_
           refine st_y ha223 rfl (y_loadBR ha223 m222 (i := 13) rfl rfl Try.underlying34 rfl sz34vp (by simp) (by dsimp only [List.drop, List.take] <;> rfl)) ?_
           clear ha223 a220; intro a224 ha224
           refine st_y ha224 rfl (y_loadBR ha224 m222 (i := 17) rfl rfl Try.underlying25 rfl sz25vp (by simp) (by dsimp only [List.drop, List.take] <;> rfl)) ?_
           clear ha224 a224; intro a225 ha225
           refine wpList_plain rfl (fun K hK => ?_)
           refine e_call ha225 Try.func17 rfl rfl rfl rfl (rDo5 _ vo bl z pe to ne fl hi place pins ws _ _ _ _ _ _ _ _ _ _ _ _ _ _ _ _ _ _ _ _ (by omega) (m222.into [(1, 1), (2, 2), (3, 3)] (by decide) rfl)) ?_
           rintro e w226 ⟨pins2, e2, rl2, rf2, rn2, p2226, d2226, rfl, hR2, hr2, hm226⟩
           have mx226 := m222.back hm226 [(1, 1), (2, 2), (3, 3), (305, 6)] (by decide); clear hm226 m222
           have m226 : MemOk _ _ [(1, _), (2, _), (3, _), (305, _), (4, _), (5, _), (6, _), (7, _), (8, _), (9, _), (13, _), (15, _), (17, _), (300, _), (301, _), (302, _), (303, _), (304, _)] _ := mx226.only [1, 2, 3, 305, 4, 5, 6, 7, 8, 9, 13, 15, 17, 300, 301, 302, 303, 304]; clear mx226
           refine ⟨_, rfl, fun a227 ha227 => ?_⟩; clear ha225 a225
           refine hK _ _ ?_; clear hK K
           obtain ⟨rfl, rfl⟩ : pins1 = pins2 ∧ e1 = e2 := by have h9 := hR1.symm.trans hR2; simp only [Prod.mk.injEq] at h9; exact h9
           obtain ⟨hV2, hh2, hl2⟩ := hV.unpin hh hR1
           obtain ⟨rfl, rfl, rfl⟩ := rep_eq hr1 hr2
           have hits := hV2.its
           refine st_y ha227 rfl (y_move ha227 rfl) ?_
           clear ha227 a227; intro a228 ha228
           refine st_y ha228 rfl (y_extract ha228 rfl rfl) ?_
           clear ha228 a228; intro a229 ha229
           refine st_y ha229 rfl (y_extract ha229 rfl rfl) ?_
           clear ha229 a229; intro a230 ha230
           refine wpList_plain rfl (fun K hK => ?_)
           refine e_alloc ha230 m226 306 zc34vp rfl ?_
           clear ha230 a230 m226; intro g231 a232 w232 ha232 m232 hB232 hg232
           clear hB232 hg232
           refine hK _ _ ?_; clear hK K
           refine wpList_plain rfl (fun K hK => ?_)
           refine e_alloc ha232 m232 307 zc45vp rfl ?_
           clear ha232 a232 m232; intro g233 a234 w234 ha234 m234 hB234 hg234
           clear hB234 hg234
           refine hK _ _ ?_; clear hK K
           refine wpList_plain rfl (fun K hK => ?_)
           refine e_storeW ha234 m234 306 rfl rfl rfl rfl rfl sz34vp ?_
           clear m234; intro w235 m235 hB235
           clear hB235
           refine hK _ _ ?_; clear hK K
           refine wpList_plain rfl (fun K hK => ?_)
           refine e_storeW ha234 m235 307 rfl rfl rfl rfl rfl sz45vp ?_
           clear m235; intro w236 m236 hB236
           clear hB236
           refine hK _ _ ?_; clear hK K
           refine wpList_nil ?_
           refine hK24 _ _ ?_; clear hK24; try clear K24
           refine wp_seq_k (fun K25 hK25 => ?_)
           refine wp_seq_k (fun K26 hK26 => ?_)
           have ha237 : Has 163 [(2, _), (3, _), (13, _), (15, _), (16, _), (18, _), (19, _), (20, _), (21, _)] a234 := ha234.only [2, 3, 13, 15, 16, 18, 19, 20, 21]; clear ha234
           have m238 : MemOk _ _ [(1, _), (2, _), (3, _), (4, _), (5, _), (6, _), (7, _), (8, _), (9, _), (13, _), (15, _), (17, _), (300, _), (301, _), (302, _), (303, _), (304, _), (305, _), (306, _), (307, _)] _ := m236.only [1, 2, 3, 4, 5, 6, 7, 8, 9, 13, 15, 17, 300, 301, 302, 303, 304, 305, 306, 307]; clear m236
           refine region_m 29 (B := [(1, _), (2, _), (3, _), (4, _), (5, _), (6, _), (7, _), (8, _), (9, _), (13, _), (15, _), (17, _), (300, _), (301, _), (302, _), (303, _), (304, _), (305, _), (306, _), (307, _)]) (m238.to ⟨il, il, il, il, il, il, il, il, il, il, il, il, il, il, il, il, il, il, il, il, trivial⟩) m238 (by kernel_rfl) (fun w239 mB239 m239 => ?_); clear m238 mB239
           refine dh 0 ha237 rfl rfl (m239.to ⟨il, il, il, il, il, il, il, il, il, il, il, il, il, il, il, il, il, il, il, il, trivial⟩) (fun W hW => y_loadBR ha237 hW (i := 304) rfl rfl Try.underlying45 rfl sz45vp (by simp) (by dsimp only [List.drop, List.take] <;> rfl)) ?_
           clear ha237 a234; intro a240 ha240
           refine dh 1 ha240 rfl rfl (m239.to ⟨il, il, il, il, il, il, il, il, il, il, il, il, il, il, il, il, il, il, il, il, trivial⟩) (fun W hW => y_loadBR ha240 hW (i := 307) rfl rfl Try.underlying45 rfl sz45vp (by simp) (by dsimp only [List.drop, List.take] <;> rfl)) ?_
           clear ha240 a240; intro a241 ha241
           refine stepE_only 2 rfl (by kernel_rfl) rfl (fun K hK => ?_)
           refine e_call ha241 Try.func18 rfl rfl rfl rfl (reply_any _ _ _ _ _) ?_
           rintro e w242 ⟨rfl, hb242⟩
           have m243 := m239.later hb242
           clear m239
           clear hb242
           refine ⟨_, rfl, fun a244 ha244 => ?_⟩; clear ha241 a241
           refine hK _ _ (m243.to ⟨il, il, il, il, il, il, il, il, il, il, il, il, il, il, il, il, il, il, il, il, trivial⟩) ?_; clear hK K
           refine dyn 3 ha244 rfl rfl (m243.to ⟨il, il, il, il, il, il, il, il, il, il, il, il, il, il, il, il, il, il, il, il, trivial⟩) (fun W => y_not ha244 rfl) ?_
           clear ha244 a244; intro a245 ha245
           refine dyn 4 ha245 rfl rfl (m243.to ⟨il, il, il, il, il, il, il, il, il, il, il, il, il, il, il, il, il, il, il, il, trivial⟩) (fun W => y_move ha245 rfl) ?_
           clear ha245 a245; intro a246 ha246
           refine dhg 5 ha246 rfl rfl rfl rfl rfl (m243.to ⟨il, il, il, il, il, il, il, il, il, il, il, il, il, il, il, il, il, il, il, il, trivial⟩) (fun W hW => y_loadBR ha246 hW (i := 303) rfl rfl Try.underlying34 rfl sz34vp (by simp) (by dsimp only [List.drop, List.take] <;> rfl)) ?_
           clear ha246 a246; intro a247 ha247
           refine dhg 6 ha247 rfl rfl rfl rfl rfl (m243.to ⟨il, il, il, il, il, il, il, il, il, il, il, il, il, il, il, il, il, il, il, il, trivial⟩) (fun W hW => y_loadBR ha247 hW (i := 306) rfl rfl Try.underlying34 rfl sz34vp (by simp) (by dsimp only [List.drop, List.take] <;> rfl)) ?_
           clear ha247 a247; intro a248 ha248
           refine stepE_only 7 rfl (by kernel_rfl) (wantedG ha248 rfl rfl rfl rfl) (fun K hK => ?_)
           refine e_call ha248 Try.func13 rfl rfl rfl rfl (rsame_any vo bl z pe to _ _ _ place _ _ _ _ _ _ _ _ _ _ _ _ _ _ _ _ _ (by omega) (by omega) (by omega) (fun e he => (hits.1 e he).1) ((m243.rd (i := 300) rfl).any) ((m243.rd (i := 301) rfl).any) ((m243.rd (i := 302) rfl).any) ((m243.rd (i := 1) rfl).any) ((m243.rd (i := 305) rfl).any) ((m243.rd (i := 3) rfl).any)) ?_
           rintro e w249 ⟨rfl, hb249⟩
           have m250 := m243.later hb249
           clear m243
           clear hb249
           refine ⟨_, rfl, fun a251 ha251 => ?_⟩; clear ha248 a248
           refine hK _ _ (m250.to ⟨il, il, il, il, il, il, il, il, il, il, il, il, il, il, il, il, il, il, il, il, trivial⟩) ?_; clear hK K
           refine dygn 8 ha251 rfl rfl rfl rfl rfl (m250.to ⟨il, il, il, il, il, il, il, il, il, il, il, il, il, il, il, il, il, il, il, il, trivial⟩) (fun W => y_not ha251 rfl) ?_
           clear ha251 a251; intro a252 ha252
           refine dyn 9 ha252 rfl rfl (m250.to ⟨il, il, il, il, il, il, il, il, il, il, il, il, il, il, il, il, il, il, il, il, trivial⟩) (fun W => y_pickF ha252 rfl rfl) ?_
           clear ha252 a252; intro a253 ha253
           refine dyn 10 ha253 rfl rfl (m250.to ⟨il, il, il, il, il, il, il, il, il, il, il, il, il, il, il, il, il, il, il, il, trivial⟩) (fun W => y_move ha253 rfl) ?_
           clear ha253 a253; intro a254 ha254
           refine dhg 11 ha254 rfl rfl rfl rfl rfl (m250.to ⟨il, il, il, il, il, il, il, il, il, il, il, il, il, il, il, il, il, il, il, il, trivial⟩) (fun W hW => y_loadBR ha254 hW (i := 303) rfl rfl Try.underlying34 rfl sz34vp (by simp) (by dsimp only [List.drop, List.take] <;> rfl)) ?_
           clear ha254 a254; intro a255 ha255
           refine stepE_only 12 rfl (by kernel_rfl) (wantedG ha255 rfl rfl rfl rfl) (fun K hK => ?_)
           refine e_call ha255 Try.func19 rfl rfl rfl rfl (vright_nn vo bl z pe to _ _ _ place _ _ _ _ _ _ _ _ _ _ ((m250.rd (i := 300) rfl).any) ((m250.rd (i := 301) rfl).any) ((m250.rd (i := 302) rfl).any) (by omega) (by omega) (by omega) (fun e he => (hits.1 e he).1)) ?_
           rintro e w256 ⟨rb, rfl, hrb, hb256⟩
           obtain rfl : rb = true := hrb.2 hV2
           have m257 := m250.later hb256
           clear m250
           clear hb256
           refine ⟨_, rfl, fun a258 ha258 => ?_⟩; clear ha255 a255
           refine hK _ _ (m257.to ⟨il, il, il, il, il, il, il, il, il, il, il, il, il, il, il, il, il, il, il, il, trivial⟩) ?_; clear hK K
           refine dygn 13 ha258 rfl rfl rfl rfl rfl (m257.to ⟨il, il, il, il, il, il, il, il, il, il, il, il, il, il, il, il, il, il, il, il, trivial⟩) (fun W => y_not ha258 rfl) ?_
           clear ha258 a258; intro a259 ha259
           refine dyn 14 ha259 rfl rfl (m257.to ⟨il, il, il, il, il, il, il, il, il, il, il, il, il, il, il, il, il, il, il, il, trivial⟩) (fun W => y_pickF ha259 rfl rfl) ?_
           clear ha259 a259; intro a260 ha260
           refine dyn 15 ha260 rfl rfl (m257.to ⟨il, il, il, il, il, il, il, il, il, il, il, il, il, il, il, il, il, il, il, il, trivial⟩) (fun W => y_move ha260 rfl) ?_
           clear ha260 a260; intro a261 ha261
           refine dhg 16 ha261 rfl rfl rfl rfl rfl (m257.to ⟨il, il, il, il, il, il, il, il, il, il, il, il, il, il, il, il, il, il, il, il, trivial⟩) (fun W hW => y_loadBR ha261 hW (i := 303) rfl rfl Try.underlying34 rfl sz34vp (by simp) (by dsimp only [List.drop, List.take] <;> rfl)) ?_
           clear ha261 a261; intro a262 ha262
           refine dhg 18 ha262 rfl rfl rfl rfl rfl (m257.to ⟨il, il, il, il, il, il, il, il, il, il, il, il, il, il, il, il, il, il, il, il, trivial⟩) (fun W hW => y_loadBR ha262 hW (i := 306) rfl rfl Try.underlying34 rfl sz34vp (by simp) (by dsimp only [List.drop, List.take] <;> rfl)) ?_
           clear ha262 a262; intro a263 ha263
           refine stepE_only 17 rfl (by kernel_rfl) (wantedG ha263 rfl rfl rfl rfl) (fun K hK => ?_)
           refine e_call ha263 Try.func20 rfl rfl rfl rfl (vlen_any _ _ _ _ _ _ _ _ _ _ _ _ _ _ _ _ _ _) ?_
           rintro e w264 ⟨rfl, hb264⟩
           have m265 := m257.later hb264
           clear m257
           clear hb264
           refine ⟨_, rfl, fun a266 ha266 => ?_⟩; clear ha263 a263
           refine hK _ _ (m265.to ⟨il, il, il, il, il, il, il, il, il, il, il, il, il, il, il, il, il, il, il, il, trivial⟩) ?_; clear hK K
           refine stepE_only 19 rfl (by kernel_rfl) (wantedG ha266 rfl rfl rfl rfl) (fun K hK => ?_)
           refine e_call ha266 Try.func21 rfl rfl rfl rfl (rlen_any _ _ _ _ _ _ _ _ _ _ _ _ _ _ _ _ _ _) ?_
           rintro e w267 ⟨rfl, hb267⟩
           have m268 := m265.later hb267
           clear m265
           clear hb267
           refine ⟨_, rfl, fun a269 ha269 => ?_⟩; clear ha266 a266
           refine hK _ _ (m268.to ⟨il, il, il, il, il, il, il, il, il, il, il, il, il, il, il, il, il, il, il, il, trivial⟩) ?_; clear hK K
           refine dygn 20 ha269 rfl rfl rfl rfl rfl (m268.to ⟨il, il, il, il, il, il, il, il, il, il, il, il, il, il, il, il, il, il, il, il, trivial⟩) (fun W => y_neq ha269 rfl rfl) ?_
           clear ha269 a269; intro a270 ha270
           refine dyn 21 ha270 rfl rfl (m268.to ⟨il, il, il, il, il, il, il, il, il, il, il, il, il, il, il, il, il, il, il, il, trivial⟩) (fun W => y_pickF ha270 rfl rfl) ?_
           clear ha270 a270; intro a271 ha271
           refine dyn 22 ha271 rfl rfl (m268.to ⟨il, il, il, il, il, il, il, il, il, il, il, il, il, il, il, il, il, il, il, il, trivial⟩) (fun W => y_move ha271 rfl) ?_
           clear ha271 a271; intro a272 ha272
           refine bool_cases ha272 (t := 154) rfl (fun hb273 ha273 => ?_) (fun hb273 ha273 => ?_)
           · exact absurd hb273 (by simp)
           clear ha272 hb273
           refine dhg 23 ha273 rfl rfl rfl rfl rfl (m268.to ⟨il, il, il, il, il, il, il, il, il, il, il, il, il, il, il, il, il, il, il, il, trivial⟩) (fun W hW => y_loadBR ha273 hW (i := 303) rfl rfl Try.underlying34 rfl sz34vp (by simp) (by dsimp only [List.drop, List.take] <;> rfl)) ?_
           clear ha273 a272; intro a274 ha274
           refine dhg 25 ha274 rfl rfl rfl rfl rfl (m268.to ⟨il, il, il, il, il, il, il, il, il, il, il, il, il, il, il, il, il, il, il, il, trivial⟩) (fun W hW => y_loadBR ha274 hW (i := 306) rfl rfl Try.underlying34 rfl sz34vp (by simp) (by dsimp only [List.drop, List.take] <;> rfl)) ?_
           clear ha274 a274; intro a275 ha275
           refine stepE_only 24 rfl (by kernel_rfl) (wantedG ha275 rfl rfl rfl rfl) (fun K hK => ?_)
           refine e_call ha275 Try.func22 rfl rfl rfl rfl (low_nn _ _ _ _ _ _ _ _ place pins1 ws _ _ _ _ _ _ _ _ ((m268.rd (i := 301) rfl).any) (by omega)) ?_
           rintro e w276 ⟨rfl, hb276⟩
           have m277 := m268.later hb276
           clear m268
           clear hb276
           refine ⟨_, rfl, fun a278 ha278 => ?_⟩; clear ha275 a275
           refine hK _ _ (m277.to ⟨il, il, il, il, il, il, il, il, il, il, il, il, il, il, il, il, il, il, il, il, trivial⟩) ?_; clear hK K
           refine stepE_only 26 rfl (by kernel_rfl) (wantedG ha278 rfl rfl rfl rfl) (fun K hK => ?_)
           refine e_call ha278 Try.func23 rfl rfl rfl rfl (rlow_nn _ _ _ _ _ _ _ _ pins1 ws _ _ _ _ _ _ _ _ _ ((m277.rd (i := 305) rfl).any) (by omega)) ?_
           rintro e w279 ⟨rfl, hb279⟩
           have m280 := m277.later hb279
           clear m277
           clear hb279
           refine ⟨_, rfl, fun a281 ha281 => ?_⟩; clear ha278 a278
           refine hK _ _ (m280.to ⟨il, il, il, il, il, il, il, il, il, il, il, il, il, il, il, il, il, il, il, il, trivial⟩) ?_; clear hK K
           refine dygn 27 ha281 rfl rfl rfl rfl rfl (m280.to ⟨il, il, il, il, il, il, il, il, il, il, il, il, il, il, il, il, il, il, il, il, trivial⟩) (fun W => y_neq ha281 rfl rfl) ?_
           clear ha281 a281; intro a282 ha282
           refine dyn 28 ha282 rfl rfl (m280.to ⟨il, il, il, il, il, il, il, il, il, il, il, il, il, il, il, il, il, il, il, il, trivial⟩) (fun W => y_pickF ha282 rfl rfl) ?_
           clear ha282 a282; intro a283 ha283
           refine wpAnyE_done (by kernel_rfl) ?_ _
           refine hK26 _ _ ?_; clear hK26; try clear K26
           refine bool_cases ha283 (t := 160) rfl (fun hb284 ha284 => ?_) (fun hb284 ha284 => ?_)
           · exact absurd hb284 (by simp)
           clear ha283 hb284
           refine wp_cond_false (ha284.ev (x := .tmp 160) rfl) ?_
           refine wp_skip ?_
           refine hK25 _ _ ?_; clear hK25; try clear K25
           have ha285 : Has 163 [(2, _), (3, _), (13, _), (15, _), (16, _), (18, _), (20, _)] a283 := ha284.only [2, 3, 13, 15, 16, 18, 20]; clear ha284
           have m286 : MemOk _ _ [(1, _), (2, _), (3, _), (4, _), (5, _), (6, _), (7, _), (8, _), (9, _), (13, _), (15, _), (17, _), (300, _), (301, _), (302, _), (303, _), (304, _), (305, _), (306, _), (307, _)] _ := m280.only [1, 2, 3, 4, 5, 6, 7, 8, 9, 13, 15, 17, 300, 301, 302, 303, 304, 305, 306, 307]; clear m280
           refine region_m 4 (B := [(306, _), (303, _)]) (m286.to ⟨il, il, trivial⟩) m286 (by kernel_rfl) (fun w287 mB287 m287 => ?_); clear m286 mB287
           refine dh 0 ha285 rfl rfl (m287.to ⟨il, il, trivial⟩) (fun W hW => y_loadBR ha285 hW (i := 306) rfl rfl Try.underlying34 rfl sz34vp (by simp) (by dsimp only [List.drop, List.take] <;> rfl)) ?_
           clear ha285 a283; intro a288 ha288
           refine dh 1 ha288 rfl rfl (m287.to ⟨il, il, trivial⟩) (fun W hW => y_loadBR ha288 hW (i := 303) rfl rfl Try.underlying34 rfl sz34vp (by simp) (by dsimp only [List.drop, List.take] <;> rfl)) ?_
           clear ha288 a288; intro a289 ha289
           refine stepE_only 2 rfl (by kernel_rfl) rfl (fun K hK => ?_)
           refine e_storeW ha289 m287 13 rfl rfl rfl rfl rfl sz34vp ?_
           clear m287; intro w290 m290 hB290
           clear hB290
           refine hK _ _ (m290.to ⟨il, il, trivial⟩) ?_; clear hK K
           refine stepE_only 3 rfl (by kernel_rfl) rfl (fun K hK => ?_)
           refine e_storeW ha289 m290 15 rfl rfl rfl rfl rfl sz34vp ?_
           clear m290; intro w291 m291 hB291
           clear hB291
           refine hK _ _ (m291.to ⟨il, il, trivial⟩) ?_; clear hK K
           refine wpAnyE_done (by kernel_rfl) ?_ _
           refine hK17 _ _ ?_; clear hK17; try clear K17
           refine wp_region_lit ?_
           refine st_y ha289 rfl (y_move ha289 rfl) ?_
           clear ha289 a289; intro a292 ha292
           refine st_y ha292 rfl (y_add ha292 rfl rfl (r := ((i + 1 : Nat) : Int)) (by rw [IntWalk.i64_in _ (by omega)]; omega)) ?_
           clear ha292 a292; intro a293 ha293
           refine st_y ha293 rfl (y_assign ha293 rfl) ?_
           clear ha293 a293; intro a294 ha294
           refine wpList_nil ?_
           show ∃ n', n' < _ ∧ _
           exact ⟨l.length + raw.length - (i + 1), by omega, i + 1, _, _, _, _, _, _, _, _, _, _, _, _, _, _, _, _, _, _, _, by omega, rfl, hV2, hh2, by omega, by omega, ha294.only [2, 3, 13, 15, 16], m291.ren [(13, 13), (15, 15), (1, 1), (2, 305), (3, 3), (4, 300), (5, 301), (6, 302), (7, 7), (8, 8)] (by decide)⟩
          ·
           refine wp_region_lit ?_
           refine st_y ha120 rfl (y_loadBR ha120 m120 (i := 15) rfl rfl Try.underlying34 rfl sz34vp (by simp) (by dsimp only [List.drop, List.take] <;> rfl)) ?_
           clear ha120 a120; intro a295 ha295
           refine st_y ha295 rfl (y_loadBR ha295 m120 (i := 17) rfl rfl Try.underlying25 rfl sz25vp (by simp) (by dsimp only [List.drop, List.take] <;> rfl)) ?_
           clear ha295 a295; intro a296 ha296
           refine wpList_plain rfl (fun K hK => ?_)
           refine e_call ha296 Try.func16 rfl rfl rfl rfl (xDo _ vo bl z pe to ne fl hi place pins ws it _ _ _ _ _ _ _ _ kd _ _ _ _ _ _ _ _ _ _ _ (by omega) hk4 hk5 (by omega) (by omega) (by omega) (by omega) hio hits.1 (m120.into [(1, 4), (2, 5), (3, 6), (4, 9)] (by decide) rfl)) ?_
           rintro e w297 ⟨ne1, hi1, fl1, ws1, e1, rl1, rf1, rn1, p1297, d1297, p2297, d2297, p3297, d3297, rfl, hR1, hr1, hm297⟩
           have mx297 := m120.back hm297 [(4, 1), (5, 2), (6, 3), (9, 4), (300, 5), (301, 6), (302, 7)] (by decide); clear hm297 m120
           have m297 : MemOk _ _ [(4, _), (5, _), (6, _), (9, _), (300, _), (301, _), (302, _), (1, _), (2, _), (3, _), (7, _), (8, _), (13, _), (15, _), (17, _)] _ := mx297.only [4, 5, 6, 9, 300, 301, 302, 1, 2, 3, 7, 8, 13, 15, 17]; clear mx297
           refine ⟨_, rfl, fun a298 ha298 => ?_⟩; clear ha296 a296
           refine hK _ _ ?_; clear hK K
           have m299 := m297.freezeS 302 rfl (by simp [cx]); clear m297
           refine st_y ha298 rfl (y_move ha298 rfl) ?_
           clear ha298 a298; intro a300 ha300
           refine st_y ha300 rfl (y_extract ha300 rfl rfl) ?_
           clear ha300 a300; intro a301 ha301
           refine st_y ha301 rfl (y_extract ha301 rfl rfl) ?_
           clear ha301 a301; intro a302 ha302
           refine wpList_plain rfl (fun K hK => ?_)
           refine e_alloc ha302 m299 303 zc34vp rfl ?_
           clear ha302 a302 m299; intro g303 a304 w304 ha304 m304 hB304 hg304
           clear hB304 hg304
           refine hK _ _ ?_; clear hK K
           refine wpList_plain rfl (fun K hK => ?_)
           refine e_alloc ha304 m304 304 zc45vp rfl ?_
           clear ha304 a304 m304; intro g305 a306 w306 ha306 m306 hB306 hg306
           clear hB306 hg306
           refine hK _ _ ?_; clear hK K
           refine wpList_plain rfl (fun K hK => ?_)
           refine e_storeW ha306 m306 303 rfl rfl rfl rfl rfl sz34vp ?_
           clear m306; intro w307 m307 hB307
           clear hB307
           refine hK _ _ ?_; clear hK K
           refine wpList_plain rfl (fun K hK => ?_)
           refine e_storeW ha306 m307 304 rfl rfl rfl rfl rfl sz45vp ?_
           clear m307; intro w308 m308 hB308
           clear hB308
           refine hK _ _ ?_; clear hK K
           refine wpList_nil ?_
           refine hK20 _ _ ?_; clear hK20; try clear K20
           refine wp_seq_k (fun K27 hK27 => ?_)
           have ha309 : Has 163 [(2, _), (3, _), (13, _), (15, _), (16, _), (17, _), (18, _), (19, _)] a306 := ha306.only [2, 3, 13, 15, 16, 17, 18, 19]; clear ha306
           refine wp_region_lit ?_
           refine st_y ha309 rfl (y_loadBR ha309 m308 (i := 13) rfl rfl Try.underlying34 rfl sz34vp (by simp) (by dsimp only [List.drop, List.take] <;> rfl)) ?_
           clear ha309 a306; intro a310 ha310
           refine st_y ha310 rfl (y_loadBR ha310 m308 (i := 17) rfl rfl Try.underlying25 rfl sz25vp (by simp) (by dsimp only [List.drop, List.take] <;> rfl)) ?_
           clear ha310 a310; intro a311 ha311
           refine wpList_plain rfl (fun K hK => ?_)
           refine e_call ha311 Try.func17 rfl rfl rfl rfl (rDo _ vo bl z pe to ne fl hi place pins ws it _ _ _ _ _ _ _ _ kd _ _ _ _ _ _ _ _ _ _ _ hk4 hk5 (by omega) (by omega) (by omega) (by omega) hio (m308.into [(1, 1), (2, 2), (3, 3), (4, 9)] (by decide) rfl)) ?_
           rintro e w312 ⟨ne2, hi2, fl2, ws2, e2, rl2, rf2, rn2, p3312, d3312, rfl, hR2, hr2, hm312⟩
           have mx312 := m308.back hm312 [(1, 1), (2, 2), (3, 3), (9, 4), (305, 7)] (by decide); clear hm312 m308
           have m312 : MemOk _ _ [(1, _), (2, _), (3, _), (9, _), (305, _), (4, _), (5, _), (6, _), (7, _), (8, _), (13, _), (15, _), (17, _), (300, _), (301, _), (302, _), (303, _), (304, _)] _ := mx312.only [1, 2, 3, 9, 305, 4, 5, 6, 7, 8, 13, 15, 17, 300, 301, 302, 303, 304]; clear mx312
           refine ⟨_, rfl, fun a313 ha313 => ?_⟩; clear ha311 a311
           refine hK _ _ ?_; clear hK K
           obtain ⟨rfl, rfl, rfl, rfl, rfl⟩ : ne1 = ne2 ∧ hi1 = hi2 ∧ fl1 = fl2 ∧ ws1 = ws2 ∧ e1 = e2 := by have h9 := hR1.symm.trans hR2; simp only [Prod.mk.injEq] at h9; exact h9
           obtain ⟨hV2, hh2, hl2⟩ := hV.do hh hR1
           obtain ⟨rfl, rfl, rfl⟩ := rep_eq hr1 hr2
           have hits := hV2.its
           refine st_y ha313 rfl (y_move ha313 rfl) ?_
           clear ha313 a313; intro a314 ha314
           refine st_y ha314 rfl (y_extract ha314 rfl rfl) ?_
           clear ha314 a314; intro a315 ha315
           refine st_y ha315 rfl (y_extract ha315 rfl rfl) ?_
           clear ha315 a315; intro a316 ha316
           refine wpList_plain rfl (fun K hK => ?_)
           refine e_alloc ha316 m312 306 zc34vp rfl ?_
           clear ha316 a316 m312; intro g317 a318 w318 ha318 m318 hB318 hg318
           clear hB318 hg318
           refine hK _ _ ?_; clear hK K
           refine wpList_plain rfl (fun K hK => ?_)
           refine e_alloc ha318 m318 307 zc45vp rfl ?_
           clear ha318 a318 m318; intro g319 a320 w320 ha320 m320 hB320 hg320
           clear hB320 hg320
           refine hK _ _ ?_; clear hK K
           refine wpList_plain rfl (fun K hK => ?_)
           refine e_storeW ha320 m320 306 rfl rfl rfl rfl rfl sz34vp ?_
           clear m320; intro w321 m321 hB321
           clear hB321
           refine hK _ _ ?_; clear hK K
           refine wpList_plain rfl (fun K hK => ?_)
           refine e_storeW ha320 m321 307 rfl rfl rfl rfl rfl sz45vp ?_
           clear m321; intro w322 m322 hB322
           clear hB322
           refine hK _ _ ?_; clear hK K
           refine wpList_nil ?_
           refine hK27 _ _ ?_; clear hK27; try clear K27
           refine wp_seq_k (fun K28 hK28 => ?_)
           refine wp_seq_k (fun K29 hK29 => ?_)
           have ha323 : Has 163 [(2, _), (3, _), (13, _), (15, _), (16, _), (18, _), (19, _), (20, _), (21, _)] a320 := ha320.only [2, 3, 13, 15, 16, 18, 19, 20, 21]; clear ha320
           have m324 : MemOk _ _ [(1, _), (2, _), (3, _), (4, _), (5, _), (6, _), (7, _), (8, _), (9, _), (13, _), (15, _), (17, _), (300, _), (301, _), (302, _), (303, _), (304, _), (305, _), (306, _), (307, _)] _ := m322.only [1, 2, 3, 4, 5, 6, 7, 8, 9, 13, 15, 17, 300, 301, 302, 303, 304, 305, 306, 307]; clear m322
           refine region_m 29 (B := [(1, _), (2, _), (3, _), (4, _), (5, _), (6, _), (7, _), (8, _), (9, _), (13, _), (15, _), (17, _), (300, _), (301, _), (302, _), (303, _), (304, _), (305, _), (306, _), (307, _)]) (m324.to ⟨il, il, il, il, il, il, il, il, il, il, il, il, il, il, il, il, il, il, il, il, trivial⟩) m324 (by kernel_rfl) (fun w325 mB325 m325 => ?_); clear m324 mB325
           refine dh 0 ha323 rfl rfl (m325.to ⟨il, il, il, il, il, il, il, il, il, il, il, il, il, il, il, il, il, il, il, il, trivial⟩) (fun W hW => y_loadBR ha323 hW (i := 304) rfl rfl Try.underlying45 rfl sz45vp (by simp) (by dsimp only [List.drop, List.take] <;> rfl)) ?_
           clear ha323 a320; intro a326 ha326
           refine dh 1 ha326 rfl rfl (m325.to ⟨il, il, il, il, il, il, il, il, il, il, il, il, il, il, il, il, il, il, il, il, trivial⟩) (fun W hW => y_loadBR ha326 hW (i := 307) rfl rfl Try.underlying45 rfl sz45vp (by simp) (by dsimp only [List.drop, List.take] <;> rfl)) ?_
           clear ha326 a326; intro a327 ha327
           refine stepE_only 2 rfl (by kernel_rfl) rfl (fun K hK => ?_)
           refine e_call ha327 Try.func18 rfl rfl rfl rfl (reply_any _ _ _ _ _) ?_
           rintro e w328 ⟨rfl, hb328⟩
           have m329 := m325.later hb328
           clear m325
           clear hb328
           refine ⟨_, rfl, fun a330 ha330 => ?_⟩; clear ha327 a327
           refine hK _ _ (m329.to ⟨il, il, il, il, il, il, il, il, il, il, il, il, il, il, il, il, il, il, il, il, trivial⟩) ?_; clear hK K
           refine dyn 3 ha330 rfl rfl (m329.to ⟨il, il, il, il, il, il, il, il, il, il, il, il, il, il, il, il, il, il, il, il, trivial⟩) (fun W => y_not ha330 rfl) ?_
           clear ha330 a330; intro a331 ha331
           refine dyn 4 ha331 rfl rfl (m329.to ⟨il, il, il, il, il, il, il, il, il, il, il, il, il, il, il, il, il, il, il, il, trivial⟩) (fun W => y_move ha331 rfl) ?_
           clear ha331 a331; intro a332 ha332
           refine dhg 5 ha332 rfl rfl rfl rfl rfl (m329.to ⟨il, il, il, il, il, il, il, il, il, il, il, il, il, il, il, il, il, il, il, il, trivial⟩) (fun W hW => y_loadBR ha332 hW (i := 303) rfl rfl Try.underlying34 rfl sz34vp (by simp) (by dsimp only [List.drop, List.take] <;> rfl)) ?_
           clear ha332 a332; intro a333 ha333
           refine dhg 6 ha333 rfl rfl rfl rfl rfl (m329.to ⟨il, il, il, il, il, il, il, il, il, il, il, il, il, il, il, il, il, il, il, il, trivial⟩) (fun W hW => y_loadBR ha333 hW (i := 306) rfl rfl Try.underlying34 rfl sz34vp (by simp) (by dsimp only [List.drop, List.take] <;> rfl)) ?_
           clear ha333 a333; intro a334 ha334
           refine stepE_only 7 rfl (by kernel_rfl) (wantedG ha334 rfl rfl rfl rfl) (fun K hK => ?_)
           refine e_call ha334 Try.func13 rfl rfl rfl rfl (rsame_any vo bl z pe to _ _ _ place _ _ _ _ _ _ _ _ _ _ _ _ _ _ _ _ _ (by omega) (by omega) (by omega) (fun e he => (hits.1 e he).1) ((m329.rd (i := 300) rfl).any) ((m329.rd (i := 301) rfl).any) ((m329.rd (i := 302) rfl).any) ((m329.rd (i := 1) rfl).any) ((m329.rd (i := 2) rfl).any) ((m329.rd (i := 305) rfl).any)) ?_
           rintro e w335 ⟨rfl, hb335⟩
           have m336 := m329.later hb335
           clear m329
           clear hb335
           refine ⟨_, rfl, fun a337 ha337 => ?_⟩; clear ha334 a334
           refine hK _ _ (m336.to ⟨il, il, il, il, il, il, il, il, il, il, il, il, il, il, il, il, il, il, il, il, trivial⟩) ?_; clear hK K
           refine dygn 8 ha337 rfl rfl rfl rfl rfl (m336.to ⟨il, il, il, il, il, il, il, il, il, il, il, il, il, il, il, il, il, il, il, il, trivial⟩) (fun W => y_not ha337 rfl) ?_
           clear ha337 a337; intro a338 ha338
           refine dyn 9 ha338 rfl rfl (m336.to ⟨il, il, il, il, il, il, il, il, il, il, il, il, il, il, il, il, il, il, il, il, trivial⟩) (fun W => y_pickF ha338 rfl rfl) ?_
           clear ha338 a338; intro a339 ha339
           refine dyn 10 ha339 rfl rfl (m336.to ⟨il, il, il, il, il, il, il, il, il, il, il, il, il, il, il, il, il, il, il, il, trivial⟩) (fun W => y_move ha339 rfl) ?_
           clear ha339 a339; intro a340 ha340
           refine dhg 11 ha340 rfl rfl rfl rfl rfl (m336.to ⟨il, il, il, il, il, il, il, il, il, il, il, il, il, il, il, il, il, il, il, il, trivial⟩) (fun W hW => y_loadBR ha340 hW (i := 303) rfl rfl Try.underlying34 rfl sz34vp (by simp) (by dsimp only [List.drop, List.take] <;> rfl)) ?_
           clear ha340 a340; intro a341 ha341
           refine stepE_only 12 rfl (by kernel_rfl) (wantedG ha341 rfl rfl rfl rfl) (fun K hK => ?_)
           refine e_call ha341 Try.func19 rfl rfl rfl rfl (vright_nn vo bl z pe to _ _ _ place _ _ _ _ _ _ _ _ _ _ ((m336.rd (i := 300) rfl).any) ((m336.rd (i := 301) rfl).any) ((m336.rd (i := 302) rfl).any) (by omega) (by omega) (by omega) (fun e he => (hits.1 e he).1)) ?_
           rintro e w342 ⟨rb, rfl, hrb, hb342⟩
           obtain rfl : rb = true := hrb.2 hV2
           have m343 := m336.later hb342
           clear m336
           clear hb342
           refine ⟨_, rfl, fun a344 ha344 => ?_⟩; clear ha341 a341
           refine hK _ _ (m343.to ⟨il, il, il, il, il, il, il, il, il, il, il, il, il, il, il, il, il, il, il, il, trivial⟩) ?_; clear hK K
           refine dygn 13 ha344 rfl rfl rfl rfl rfl (m343.to ⟨il, il, il, il, il, il, il, il, il, il, il, il, il, il, il, il, il, il, il, il, trivial⟩) (fun W => y_not ha344 rfl) ?_
           clear ha344 a344; intro a345 ha345
           refine dyn 14 ha345 rfl rfl (m343.to ⟨il, il, il, il, il, il, il, il, il, il, il, il, il, il, il, il, il, il, il, il, trivial⟩) (fun W => y_pickF ha345 rfl rfl) ?_
           clear ha345 a345; intro a346 ha346
           refine dyn 15 ha346 rfl rfl (m343.to ⟨il, il, il, il, il, il, il, il, il, il, il, il, il, il, il, il, il, il, il, il, trivial⟩) (fun W => y_move ha346 rfl) ?_
           clear ha346 a346; intro a347 ha347
           refine dhg 16 ha347 rfl rfl rfl rfl rfl (m343.to ⟨il, il, il, il, il, il, il, il, il, il, il, il, il, il, il, il, il, il, il, il, trivial⟩) (fun W hW => y_loadBR ha347 hW (i := 303) rfl rfl Try.underlying34 rfl sz34vp (by simp) (by dsimp only [List.drop, List.take] <;> rfl)) ?_
           clear ha347 a347; intro a348 ha348
           refine dhg 18 ha348 rfl rfl rfl rfl rfl (m343.to ⟨il, il, il, il, il, il, il, il, il, il, il, il, il, il, il, il, il, il, il, il, trivial⟩) (fun W hW => y_loadBR ha348 hW (i := 306) rfl rfl Try.underlying34 rfl sz34vp (by simp) (by dsimp only [List.drop, List.take] <;> rfl)) ?_
           clear ha348 a348; intro a349 ha349
           refine stepE_only 17 rfl (by kernel_rfl) (wantedG ha349 rfl rfl rfl rfl) (fun K hK => ?_)
           refine e_call ha349 Try.func20 rfl rfl rfl rfl (vlen_any _ _ _ _ _ _ _ _ _ _ _ _ _ _ _ _ _ _) ?_
           rintro e w350 ⟨rfl, hb350⟩
           have m351 := m343.later hb350
           clear m343
           clear hb350
           refine ⟨_, rfl, fun a352 ha352 => ?_⟩; clear ha349 a349
           refine hK _ _ (m351.to ⟨il, il, il, il, il, il, il, il, il, il, il, il, il, il, il, il, il, il, il, il, trivial⟩) ?_; clear hK K
           refine stepE_only 19 rfl (by kernel_rfl) (wantedG ha352 rfl rfl rfl rfl) (fun K hK => ?_)
           refine e_call ha352 Try.func21 rfl rfl rfl rfl (rlen_any _ _ _ _ _ _ _ _ _ _ _ _ _ _ _ _ _ _) ?_
           rintro e w353 ⟨rfl, hb353⟩
           have m354 := m351.later hb353
           clear m351
           clear hb353
           refine ⟨_, rfl, fun a355 ha355 => ?_⟩; clear ha352 a352
           refine hK _ _ (m354.to ⟨il, il, il, il, il, il, il, il, il, il, il, il, il, il, il, il, il, il, il, il, trivial⟩) ?_; clear hK K
           refine dygn 20 ha355 rfl rfl rfl rfl rfl (m354.to ⟨il, il, il, il, il, il, il, il, il, il, il, il, il, il, il, il, il, il, il, il, trivial⟩) (fun W => y_neq ha355 rfl rfl) ?_
           clear ha355 a355; intro a356 ha356
           refine dyn 21 ha356 rfl rfl (m354.to ⟨il, il, il, il, il, il, il, il, il, il, il, il, il, il, il, il, il, il, il, il, trivial⟩) (fun W => y_pickF ha356 rfl rfl) ?_
           clear ha356 a356; intro a357 ha357
           refine dyn 22 ha357 rfl rfl (m354.to ⟨il, il, il, il, il, il, il, il, il, il, il, il, il, il, il, il, il, il, il, il, trivial⟩) (fun W => y_move ha357 rfl) ?_
           clear ha357 a357; intro a358 ha358
           refine bool_cases ha358 (t := 154) rfl (fun hb359 ha359 => ?_) (fun hb359 ha359 => ?_)
           · exact absurd hb359 (by simp)
           clear ha358 hb359
           refine dhg 23 ha359 rfl rfl rfl rfl rfl (m354.to ⟨il, il, il, il, il, il, il, il, il, il, il, il, il, il, il, il, il, il, il, il, trivial⟩) (fun W hW => y_loadBR ha359 hW (i := 303) rfl rfl Try.underlying34 rfl sz34vp (by simp) (by dsimp only [List.drop, List.take] <;> rfl)) ?_
           clear ha359 a358; intro a360 ha360
           refine dhg 25 ha360 rfl rfl rfl rfl rfl (m354.to ⟨il, il, il, il, il, il, il, il, il, il, il, il, il, il, il, il, il, il, il, il, trivial⟩) (fun W hW => y_loadBR ha360 hW (i := 306) rfl rfl Try.underlying34 rfl sz34vp (by simp) (by dsimp only [List.drop, List.take] <;> rfl)) ?_
           clear ha360 a360; intro a361 ha361
           refine stepE_only 24 rfl (by kernel_rfl) (wantedG ha361 rfl rfl rfl rfl) (fun K hK => ?_)
           refine e_call ha361 Try.func22 rfl rfl rfl rfl (low_nn _ _ _ _ _ _ _ _ place pins ws1 _ _ _ _ _ _ _ _ ((m354.rd (i := 301) rfl).any) (by omega)) ?_
           rintro e w362 ⟨rfl, hb362⟩
           have m363 := m354.later hb362
           clear m354
           clear hb362
           refine ⟨_, rfl, fun a364 ha364 => ?_⟩; clear ha361 a361
           refine hK _ _ (m363.to ⟨il, il, il, il, il, il, il, il, il, il, il, il, il, il, il, il, il, il, il, il, trivial⟩) ?_; clear hK K
           refine stepE_only 26 rfl (by kernel_rfl) (wantedG ha364 rfl rfl rfl rfl) (fun K hK => ?_)
           refine e_call ha364 Try.func23 rfl rfl rfl rfl (rlow_nn _ _ _ _ _ _ _ _ pins ws1 _ _ _ _ _ _ _ _ _ ((m363.rd (i := 2) rfl).any) (by omega)) ?_
           rintro e w365 ⟨rfl, hb365⟩
           have m366 := m363.later hb365
           clear m363
           clear hb365
           refine ⟨_, rfl, fun a367 ha367 => ?_⟩; clear ha364 a364
           refine hK _ _ (m366.to ⟨il, il, il, il, il, il, il, il, il, il, il, il, il, il, il, il, il, il, il, il, trivial⟩) ?_; clear hK K
           refine dygn 27 ha367 rfl rfl rfl rfl rfl (m366.to ⟨il, il, il, il, il, il, il, il, il, il, il, il, il, il, il, il, il, il, il, il, trivial⟩) (fun W => y_neq ha367 rfl rfl) ?_
           clear ha367 a367; intro a368 ha368
           refine dyn 28 ha368 rfl rfl (m366.to ⟨il, il, il, il, il, il, il, il, il, il, il, il, il, il, il, il, il, il, il, il, trivial⟩) (fun W => y_pickF ha368 rfl rfl) ?_
           clear ha368 a368; intro a369 ha369
           refine wpAnyE_done (by kernel_rfl) ?_ _
           refine hK29 _ _ ?_; clear hK29; try clear K29
           refine bool_cases ha369 (t := 160) rfl (fun hb370 ha370 => ?_) (fun hb370 ha370 => ?_)
           · exact absurd hb370 (by simp)
           clear ha369 hb370
           refine wp_cond_false (ha370.ev (x := .tmp 160) rfl) ?_
           refine wp_skip ?_
           refine hK28 _ _ ?_; clear hK28; try clear K28
           have ha371 : Has 163 [(2, _), (3, _), (13, _), (15, _), (16, _), (18, _), (20, _)] a369 := ha370.only [2, 3, 13, 15, 16, 18, 20]; clear ha370
           have m372 : MemOk _ _ [(1, _), (2, _), (3, _), (4, _), (5, _), (6, _), (7, _), (8, _), (9, _), (13, _), (15, _), (17, _), (300, _), (301, _), (302, _), (303, _), (304, _), (305, _), (306, _), (307, _)] _ := m366.only [1, 2, 3, 4, 5, 6, 7, 8, 9, 13, 15, 17, 300, 301, 302, 303, 304, 305, 306, 307]; clear m366
           refine region_m 4 (B := [(306, _), (303, _)]) (m372.to ⟨il, il, trivial⟩) m372 (by kernel_rfl) (fun w373 mB373 m373 => ?_); clear m372 mB373
           refine dh 0 ha371 rfl rfl (m373.to ⟨il, il, trivial⟩) (fun W hW => y_loadBR ha371 hW (i := 306) rfl rfl Try.underlying34 rfl sz34vp (by simp) (by dsimp only [List.drop, List.take] <;> rfl)) ?_
           clear ha371 a369; intro a374 ha374
           refine dh 1 ha374 rfl rfl (m373.to ⟨il, il, trivial⟩) (fun W hW => y_loadBR ha374 hW (i := 303) rfl rfl Try.underlying34 rfl sz34vp (by simp) (by dsimp only [List.drop, List.take] <;> rfl)) ?_
           clear ha374 a374; intro a375 ha375
           refine stepE_only 2 rfl (by kernel_rfl) rfl (fun K hK => ?_)
           refine e_storeW ha375 m373 13 rfl rfl rfl rfl rfl sz34vp ?_
           clear m373; intro w376 m376 hB376
           clear hB376
           refine hK _ _ (m376.to ⟨il, il, trivial⟩) ?_; clear hK K
           refine stepE_only 3 rfl (by kernel_rfl) rfl (fun K hK => ?_)
           refine e_storeW ha375 m376 15 rfl rfl rfl rfl rfl sz34vp ?_
           clear m376; intro w377 m377 hB377
           clear hB377
           refine hK _ _ (m377.to ⟨il, il, trivial⟩) ?_; clear hK K
           refine wpAnyE_done (by kernel_rfl) ?_ _
           refine hK17 _ _ ?_; clear hK17; try clear K17
           refine wp_region_lit ?_
           refine st_y ha375 rfl (y_move ha375 rfl) ?_
           clear ha375 a375; intro a378 ha378
           refine st_y ha378 rfl (y_add ha378 rfl rfl (r := ((i + 1 : Nat) : Int)) (by rw [IntWalk.i64_in _ (by omega)]; omega)) ?_
           clear ha378 a378; intro a379 ha379
           refine st_y ha379 rfl (y_assign ha379 rfl) ?_
           clear ha379 a379; intro a380 ha380
           refine wpList_nil ?_
           show ∃ n', n' < _ ∧ _
           exact ⟨l.length + raw.length - (i + 1), by omega, i + 1, _, _, _, _, _, _, _, _, _, _, _, _, _, _, _, _, _, _, _, by omega, rfl, hV2, hh2, by omega, by omega, ha380.only [2, 3, 13, 15, 16], m377.ren [(13, 13), (15, 15), (1, 1), (2, 2), (3, 305), (4, 300), (5, 301), (6, 302), (7, 7), (8, 8)] (by decide)⟩
        refine wp_seq_k (fun K30 hK30 => ?_)
        refine wp_region_lit ?_
        refine st_y ha119 rfl (y_move ha119 rfl) ?_
        clear ha119 a119; intro a381 ha381
        refine st_y ha381 rfl (y_move ha381 rfl) ?_
        clear ha381 a381; intro a382 ha382
        refine st_y ha382 rfl (y_len ha382 rfl Try.underlying27) ?_
        clear ha382 a382; intro a383 ha383
        refine st_y ha383 rfl (y_lss ha383 rfl rfl) ?_
        clear ha383 a383; intro a384 ha384
        refine wpList_nil ?_
        refine hK30 _ _ ?_; clear hK30; try clear K30
        refine bool_cases ha384 (t := 87) rfl (fun hb385 ha385 => ?_) (fun hb385 ha385 => ?_)
        ·
         clear ha384
         try simp only [Q1x, Q2x, Q3x, Q4x, Q5x, Q6x, Q7x, Q8x, Q9x, Q0x, Qax, Qbx] at hb385
         have hi4 : i < l.length := by omega
         obtain ⟨x4, hx4⟩ : ∃ x, l[i]? = some x := ⟨_, List.getElem?_eq_getElem hi4⟩
         have hx4b := hlb _ (List.mem_of_getElem? hx4)
         refine wp_cond_true (ha385.ev (x := .tmp 87) rfl) ?_
         obtain ⟨b386, o386, vs386, hp386, hR386, ho386, m386⟩ := m119.openR (i := 7) rfl (i) (r := [.v (.int .u8 x4.1), .v (.int .u8 x4.2.1), .v (.int .u8 x4.2.2.1), .v (.int .u8 x4.2.2.2)]) (f4_get hx4) 201 rfl
         cases hp386; clear m119 ho386
         rcases hR386 with _ | ⟨hd386_0, _ | ⟨hd386_1, _ | ⟨hd386_2, _ | ⟨hd386_3, _ | _⟩⟩⟩⟩
         obtain rfl := hd386_0.v_out
         clear hd386_0
         obtain rfl := hd386_1.v_out
         clear hd386_1
         obtain rfl := hd386_2.v_out
         clear hd386_2
         obtain rfl := hd386_3.v_out
         clear hd386_3
         obtain ⟨b387, o387, vs387, hp387, hR387, ho387, m387⟩ := m386.openR (i := 7) rfl (i) (r := [.v (.int .u8 x4.1), .v (.int .u8 x4.2.1), .v (.int .u8 x4.2.2.1), .v (.int .u8 x4.2.2.2)]) (f4_get hx4) 202 rfl
         cases hp387; clear m386 ho387
         rcases hR387 with _ | ⟨hd387_0, _ | ⟨hd387_1, _ | ⟨hd387_2, _ | ⟨hd387_3, _ | _⟩⟩⟩⟩
         obtain rfl := hd387_0.v_out
         clear hd387_0
         obtain rfl := hd387_1.v_out
         clear hd387_1
         obtain rfl := hd387_2.v_out
         clear hd387_2
         obtain rfl := hd387_3.v_out
         clear hd387_3
         obtain ⟨b388, o388, vs388, hp388, hR388, ho388, m388⟩ := m387.openR (i := 7) rfl (i) (r := [.v (.int .u8 x4.1), .v (.int .u8 x4.2.1), .v (.int .u8 x4.2.2.1), .v (.int .u8 x4.2.2.2)]) (f4_get hx4) 203 rfl
         cases hp388; clear m387 ho388
         rcases hR388 with _ | ⟨hd388_0, _ | ⟨hd388_1, _ | ⟨hd388_2, _ | ⟨hd388_3, _ | _⟩⟩⟩⟩
         obtain rfl := hd388_0.v_out
         clear hd388_0
         obtain rfl := hd388_1.v_out
         clear hd388_1
         obtain rfl := hd388_2.v_out
         clear hd388_2
         obtain rfl := hd388_3.v_out
         clear hd388_3
         obtain ⟨b389, o389, vs389, hp389, hR389, ho389, m389⟩ := m388.openR (i := 7) rfl (i) (r := [.v (.int .u8 x4.1), .v (.int .u8 x4.2.1), .v (.int .u8 x4.2.2.1), .v (.int .u8 x4.2.2.2)]) (f4_get hx4) 204 rfl
         cases hp389; clear m388 ho389
         rcases hR389 with _ | ⟨hd389_0, _ | ⟨hd389_1, _ | ⟨hd389_2, _ | ⟨hd389_3, _ | _⟩⟩⟩⟩
         obtain rfl := hd389_0.v_out
         clear hd389_0
         obtain rfl := hd389_1.v_out
         clear hd389_1
         obtain rfl := hd389_2.v_out
         clear hd389_2
         obtain rfl := hd389_3.v_out
         clear hd389_3
         have m390 : MemOk _ _ [(1, _), (2, _), (3, _), (4, _), (5, _), (6, _), (7, _), (8, _), (13, _), (15, _), (200, _), (201, _), (202, _), (203, _), (204, _)] _ := m389.only [1, 2, 3, 4, 5, 6, 7, 8, 13, 15, 200, 201, 202, 203, 204]; clear m389
         refine region_m 22 (B := [(1, _), (2, _), (3, _), (4, _), (5, _), (6, _), (7, _), (8, _), (13, _), (15, _), (200, _), (201, _), (202, _), (203, _), (204, _)]) (m390.to ⟨il, il, il, il, il, il, il, il, il, il, il, il, il, il, il, trivial⟩) m390 (by kernel_rfl) (fun w391 mB391 m391 => ?_); clear m390 mB391
         refine dr 0 ha385 rfl rfl (m391.to ⟨il, il, il, il, il, il, il, il, il, il, il, il, il, il, il, trivial⟩) (fun W hW => y_loadBR ha385 hW (i := 13) rfl rfl Try.underlying34 rfl sz34vp (by simp) (by dsimp only [List.drop, List.take] <;> rfl)) ?_
         clear ha385 a384; intro a392 ha392
         refine dyn 1 ha392 rfl rfl (m391.to ⟨il, il, il, il, il, il, il, il, il, il, il, il, il, il, il, trivial⟩) (fun W => y_move ha392 rfl) ?_
         clear ha392 a392; intro a393 ha393
         refine dyn 2 ha393 rfl rfl (m391.to ⟨il, il, il, il, il, il, il, il, il, il, il, il, il, il, il, trivial⟩) (fun W => y_move ha393 rfl) ?_
         clear ha393 a393; intro a394 ha394
         refine dyn 3 ha394 rfl rfl (m391.to ⟨il, il, il, il, il, il, il, il, il, il, il, il, il, il, il, trivial⟩) (fun W => y_idx ha394 rfl rfl Try.underlying27 sz26vp (i) rfl hi4) ?_
         clear ha394 a394; intro a395 ha395
         refine dyn 4 ha395 rfl rfl (m391.to ⟨il, il, il, il, il, il, il, il, il, il, il, il, il, il, il, trivial⟩) (fun W => y_idxA ha395 rfl rfl Try.underlying26 sz5vp 0 rfl (by decide) rfl) ?_
         clear ha395 a395; intro a396 ha396
         refine dr 5 ha396 rfl rfl (m391.to ⟨il, il, il, il, il, il, il, il, il, il, il, il, il, il, il, trivial⟩) (fun W hW => y_loadC0 ha396 hW (i := 201) rfl rfl Try.underlying5 rfl) ?_
         clear ha396 a396; intro a397 ha397
         refine dyn 6 ha397 rfl rfl (m391.to ⟨il, il, il, il, il, il, il, il, il, il, il, il, il, il, il, trivial⟩) (fun W => y_move ha397 rfl) ?_
         clear ha397 a397; intro a398 ha398
         refine dyn 7 ha398 rfl rfl (m391.to ⟨il, il, il, il, il, il, il, il, il, il, il, il, il, il, il, trivial⟩) (fun W => y_move ha398 rfl) ?_
         clear ha398 a398; intro a399 ha399
         refine dyn 8 ha399 rfl rfl (m391.to ⟨il, il, il, il, il, il, il, il, il, il, il, il, il, il, il, trivial⟩) (fun W => y_idx ha399 rfl rfl Try.underlying27 sz26vp (i) rfl hi4) ?_
         clear ha399 a399; intro a400 ha400
         refine dyn 9 ha400 rfl rfl (m391.to ⟨il, il, il, il, il, il, il, il, il, il, il, il, il, il, il, trivial⟩) (fun W => y_idxA ha400 rfl rfl Try.underlying26 sz5vp 1 rfl (by decide) rfl) ?_
         clear ha400 a400; intro a401 ha401
         refine dr 10 ha401 rfl rfl (m391.to ⟨il, il, il, il, il, il, il, il, il, il, il, il, il, il, il, trivial⟩) (fun W hW => y_loadC1 ha401 hW (i := 202) (q := 1) rfl rfl rfl Try.underlying5 rfl) ?_
         clear ha401 a401; intro a402 ha402
         refine dyn 11 ha402 rfl rfl (m391.to ⟨il, il, il, il, il, il, il, il, il, il, il, il, il, il, il, trivial⟩) (fun W => y_move ha402 rfl) ?_
         clear ha402 a402; intro a403 ha403
         refine dyn 12 ha403 rfl rfl (m391.to ⟨il, il, il, il, il, il, il, il, il, il, il, il, il, il, il, trivial⟩) (fun W => y_move ha403 rfl) ?_
         clear ha403 a403; intro a404 ha404
         refine dyn 13 ha404 rfl rfl (m391.to ⟨il, il, il, il, il, il, il, il, il, il, il, il, il, il, il, trivial⟩) (fun W => y_idx ha404 rfl rfl Try.underlying27 sz26vp (i) rfl hi4) ?_
         clear ha404 a404; intro a405 ha405
         refine dyn 14 ha405 rfl rfl (m391.to ⟨il, il, il, il, il, il, il, il, il, il, il, il, il, il, il, trivial⟩) (fun W => y_idxA ha405 rfl rfl Try.underlying26 sz5vp 2 rfl (by decide) rfl) ?_
         clear ha405 a405; intro a406 ha406
         refine dr 15 ha406 rfl rfl (m391.to ⟨il, il, il, il, il, il, il, il, il, il, il, il, il, il, il, trivial⟩) (fun W hW => y_loadC1 ha406 hW (i := 203) (q := 2) rfl rfl rfl Try.underlying5 rfl) ?_
         clear ha406 a406; intro a407 ha407
         refine dyn 16 ha407 rfl rfl (m391.to ⟨il, il, il, il, il, il, il, il, il, il, il, il, il, il, il, trivial⟩) (fun W => y_move ha407 rfl) ?_
         clear ha407 a407; intro a408 ha408
         refine dyn 17 ha408 rfl rfl (m391.to ⟨il, il, il, il, il, il, il, il, il, il, il, il, il, il, il, trivial⟩) (fun W => y_move ha408 rfl) ?_
         clear ha408 a408; intro a409 ha409
         refine dyn 18 ha409 rfl rfl (m391.to ⟨il, il, il, il, il, il, il, il, il, il, il, il, il, il, il, trivial⟩) (fun W => y_idx ha409 rfl rfl Try.underlying27 sz26vp (i) rfl hi4) ?_
         clear ha409 a409; intro a410 ha410
         refine dyn 19 ha410 rfl rfl (m391.to ⟨il, il, il, il, il, il, il, il, il, il, il, il, il, il, il, trivial⟩) (fun W => y_idxA ha410 rfl rfl Try.underlying26 sz5vp 3 rfl (by decide) rfl) ?_
         clear ha410 a410; intro a411 ha411
         refine dr 20 ha411 rfl rfl (m391.to ⟨il, il, il, il, il, il, il, il, il, il, il, il, il, il, il, trivial⟩) (fun W hW => y_loadC1 ha411 hW (i := 204) (q := 3) rfl rfl rfl Try.underlying5 rfl) ?_
         clear ha411 a411; intro a412 ha412
         refine stepE_only 21 rfl (by kernel_rfl) rfl (fun K hK => ?_)
         refine e_call ha412 Try.func15 rfl rfl rfl rfl (scmd_any vo bl z pe to ne fl hi _ _ _ _ _ _ _ _ _ x4.1 x4.2.1 x4.2.2.1 x4.2.2.2 _ (by omega) (by rw [List.length_map]; omega) (by omega) hx4b.1 hx4b.2.1 hx4b.2.2.1 hx4b.2.2.2) ?_
         rintro e w413 ⟨kd, bl2, sz2, pe2, to2, at0, ix, vo2, it, p413, c413, -, rfl, hkd, hit8, hitb, hd413, hb413⟩
         have m414 := m391.callF 205 rfl hb413 hd413
         clear m391
         clear hb413 hd413
         refine ⟨_, rfl, fun a415 ha415 => ?_⟩; clear ha412 a412
         refine hK _ _ (m414.to ⟨il, il, il, il, il, il, il, il, il, il, il, il, il, il, il, trivial⟩) ?_; clear hK K
         refine stepE_end 22 rfl (by kernel_rfl) rfl (by rfl) (fun K hK => ?_)
         refine e_storeW ha415 m414 200 rfl rfl rfl rfl rfl sz25vp ?_
         clear m414; intro w416 m416 hB416
         clear hB416
         refine hK _ _ ?_; clear hK K
         refine wpAnyE_done (by kernel_rfl) ?_ _
         show K19 _ _
         exact hC19 _ _ ⟨_, _, _, _, _, _, _, _, it, _, _, _, _, _, _, _, _, by omega, hitb.ok, ha415.only [2, 3, 13, 15, 16, 17], m416.ren [(17, 200), (13, 13), (15, 15), (1, 1), (2, 2), (3, 3), (4, 4), (5, 5), (6, 6), (7, 7), (8, 8), (9, 205)] (by decide)⟩
        ·
         clear ha384
         try simp only [Q1x, Q2x, Q3x, Q4x, Q5x, Q6x, Q7x, Q8x, Q9x, Q0x, Qax, Qbx] at hb385
         obtain ⟨j9, rfl⟩ : ∃ j, i = l.length + j := ⟨i - l.length, by omega⟩
         have hj9 : j9 < raw.length := by omega
         obtain ⟨c9, hc9⟩ : ∃ x, raw[j9]? = some x := ⟨_, List.getElem?_eq_getElem hj9⟩
         have hc9b := hrb9 _ (List.mem_of_getElem? hc9)
         refine wp_cond_false (ha385.ev (x := .tmp 87) rfl) ?_
         refine wp_seq_k (fun K31 hK31 => ?_)
         refine wp_region_lit ?_
         refine st_y ha385 rfl (y_move ha385 rfl) ?_
         clear ha385 a384; intro a417 ha417
         refine st_y ha417 rfl (y_move ha417 rfl) ?_
         clear ha417 a417; intro a418 ha418
         refine st_y ha418 rfl (y_move ha418 rfl) ?_
         clear ha418 a418; intro a419 ha419
         refine st_y ha419 rfl (y_len ha419 rfl Try.underlying27) ?_
         clear ha419 a419; intro a420 ha420
         refine st_y ha420 rfl (y_sub ha420 rfl rfl (r := ((j9 : Nat) : Int)) (by rw [IntWalk.i64_in _ (by omega)]; omega)) ?_
         clear ha420 a420; intro a421 ha421
         obtain ⟨b422, o422, vs422, hp422, hR422, ho422, m422⟩ := m119.openR (i := 8) rfl (j9) (r := [.v (.int .i64 c9.kd), .v (.int .i64 c9.vo), .v (.int .i64 c9.bl), .v (.int .i64 c9.sz), .v (.int .i64 c9.pe), .ns .i64 c9.pl, .v (.int .i64 c9.to), .v (.int .i64 c9.at0), .v (.int .i64 c9.ix), .l 2 (c9.its.map itD)]) (cmdD_get hc9) 201 rfl
         cases hp422; clear m119 ho422
         rcases hR422 with _ | ⟨hd422_0, _ | ⟨hd422_1, _ | ⟨hd422_2, _ | ⟨hd422_3, _ | ⟨hd422_4, _ | ⟨hd422_5, _ | ⟨hd422_6, _ | ⟨hd422_7, _ | ⟨hd422_8, _ | ⟨hd422_9, _ | _⟩⟩⟩⟩⟩⟩⟩⟩⟩⟩
         obtain rfl := hd422_0.v_out
         clear hd422_0
         obtain rfl := hd422_1.v_out
         clear hd422_1
         obtain rfl := hd422_2.v_out
         clear hd422_2
         obtain rfl := hd422_3.v_out
         clear hd422_3
         obtain rfl := hd422_4.v_out
         clear hd422_4
         obtain ⟨p423, c423, hv423, hc423⟩ := hd422_5.ns_shape; subst hv423
         have m423 := m422.dat 202 rfl (hd422_5.cast (fun _ h => (free_add rfl h))); clear m422 hd422_5
         obtain rfl := hd422_6.v_out
         clear hd422_6
         obtain rfl := hd422_7.v_out
         clear hd422_7
         obtain rfl := hd422_8.v_out
         clear hd422_8
         obtain ⟨p424, c424, hv424, hc424⟩ := hd422_9.l_shape; subst hv424
         have m424 := m423.dat 203 rfl (hd422_9.cast (fun _ h => (free_add rfl (free_add rfl h)))); clear m423 hd422_9
         refine st_y ha421 rfl (y_idx ha421 rfl rfl Try.underlying28 sz25vp (j9) rfl hj9) ?_
         clear ha421 a421; intro a425 ha425
         refine st_y ha425 rfl (y_loadCR ha425 m424 (i := 201) rfl rfl Try.underlying25 rfl sz25vp) ?_
         clear ha425 a425; intro a426 ha426
         refine wpList_plain rfl (fun K hK => ?_)
         refine e_storeW ha426 m424 200 rfl rfl rfl rfl rfl sz25vp ?_
         clear m424; intro w427 m427 hB427
         clear hB427
         refine hK _ _ ?_; clear hK K
         refine wpList_nil ?_
         refine hK31 _ _ ?_; clear hK31; try clear K31
         refine wp_seq_k (fun K32 hK32 => ?_)
         have ha428 : Has 163 [(2, _), (3, _), (13, _), (15, _), (16, _), (17, _), (87, _)] a426 := ha426.only [2, 3, 13, 15, 16, 17, 87]; clear ha426
         refine wp_region_lit ?_
         refine st_y ha428 rfl (y_loadBR ha428 m427 (i := 200) rfl rfl Try.underlying25 rfl sz25vp (by simp) (by dsimp only [List.drop, List.take] <;> rfl)) ?_
         clear ha428 a426; intro a429 ha429
         refine wpList_plain rfl (fun K hK => ?_)
         refine e_call ha429 Try.func10 rfl rfl rfl rfl (smallC_any _ _ _ _ _ _ _ _ c9.pl c9.its _ _ _ _ _ _ ((m427.rd (i := 202) rfl).any) ((m427.rd (i := 203) rfl).any) (by omega)) ?_
         rintro e w430 ⟨sb, rfl, hsb, hb430⟩
         have m431 := m427.later hb430
         clear m427
         clear hb430
         refine ⟨_, rfl, fun a432 ha432 => ?_⟩; clear ha429 a429
         refine hK _ _ ?_; clear hK K
         refine st_y ha432 rfl (y_not ha432 rfl) ?_
         clear ha432 a432; intro a433 ha433
         refine wpList_nil ?_
         refine hK32 _ _ ?_; clear hK32; try clear K32
         refine bool_cases ha433 (t := 119) rfl (fun hb434 ha434 => ?_) (fun hb434 ha434 => ?_)
         ·
          clear ha433
          try simp only [Q1x, Q2x, Q3x, Q4x, Q5x, Q6x, Q7x, Q8x, Q9x, Q0x, Qax, Qbx] at hb434
          refine wp_cond_true (ha434.ev (x := .tmp 119) rfl) ?_
          refine wp_seq_k (fun K33 hK33 => ?_)
          refine wp_region_lit ?_
          refine st_y ha434 rfl (y_assign ha434 rfl) ?_
          clear ha434 a433; intro a435 ha435
          refine wpList_nil ?_
          refine hK33 _ _ ?_; clear hK33; try clear K33
          refine wp_ret ?_
          try dsimp only [Exit.then, Exit.inBlock]
          refine (ret1 (fn := Try.f3) ha435 rfl rfl ?_)
          exact ⟨rfl, m431.below⟩
         ·
          clear ha433
          try simp only [Q1x, Q2x, Q3x, Q4x, Q5x, Q6x, Q7x, Q8x, Q9x, Q0x, Qax, Qbx] at hb434
          have hsm := hsb (by simp_all)
          refine wp_cond_false (ha434.ev (x := .tmp 119) rfl) ?_
          refine wp_skip ?_
          rw [show (c9.its.map itD).length = c9.its.length from List.length_map _] at m431
          show K19 _ _
          exact hC19 _ _ ⟨_, _, _, _, _, _, _, _, c9.its, _, _, _, _, _, _, _, _, (hsm.2).1, (hsm.2).ok, ha434.only [2, 3, 13, 15, 16, 17], m431.ren [(17, 200), (13, 13), (15, 15), (1, 1), (2, 2), (3, 3), (4, 4), (5, 5), (6, 6), (7, 7), (8, 8), (9, 203)] (by decide)⟩
       ·
        clear ha115
        try simp only [Q1x, Q2x, Q3x, Q4x, Q5x, Q6x, Q7x, Q8x, Q9x, Q0x, Qax, Qbx] at hb116
        refine wp_cond_false (ha116.ev (x := .tmp 81) rfl) ?_
        refine wp_exit ?_
        refine hK13 _ _ ?_; clear hK13; try clear K13
        refine wp_seq_k (fun K34 hK34 => ?_)
        have ha436 : Has 163 [(2, _), (3, _), (13, _), (15, _), (16, _)] a115 := ha116.only [2, 3, 13, 15, 16]; clear ha116
        refine wp_region_lit ?_
        refine st_y ha436 rfl (y_assign ha436 rfl) ?_
        clear ha436 a115; intro a437 ha437
        refine wpList_nil ?_
        refine hK34 _ _ ?_; clear hK34; try clear K34
        refine wp_ret ?_
        try dsimp only [Exit.then, Exit.inBlock]
        refine (ret1 (fn := Try.f3) ha437 rfl rfl ?_)
        exact ⟨rfl, m108.below⟩
    refine wp_seq_k (fun K35 hK35 => ?_)
    have ha438 : Has 163 [(2, _), (3, _), (5, _), (8, _), (9, _), (10, _), (11, _), (12, _)] a69 := ha69.only [2, 3, 5, 8, 9, 10, 11, 12]; clear ha69
    refine wp_region_lit ?_
    refine st_y ha438 rfl (y_move ha438 rfl) ?_
    clear ha438 a69; intro a439 ha439
    refine st_y ha439 rfl (y_move ha439 rfl) ?_
    clear ha439 a439; intro a440 ha440
    refine st_y ha440 rfl (y_neq ha440 rfl rfl) ?_
    clear ha440 a440; intro a441 ha441
    refine st_y ha441 rfl (y_move ha441 rfl) ?_
    clear ha441 a441; intro a442 ha442
    refine bool_cases ha442 (t := 50) rfl (fun hb443 ha443 => ?_) (fun hb443 ha443 => ?_)
    · exact absurd hb443 (by simp)
    clear ha442 hb443
    refine st_g ha443 rfl rfl rfl rfl (y_loadBR ha443 m68 (i := 63) rfl rfl Try.underlying34 rfl sz34vp (by simp) (by dsimp only [List.drop, List.take] <;> rfl)) ?_
    clear ha443 a442; intro a444 ha444
    refine st_g ha444 rfl rfl rfl rfl (y_loadBR ha444 m68 (i := 65) rfl rfl Try.underlying34 rfl sz34vp (by simp) (by dsimp only [List.drop, List.take] <;> rfl)) ?_
    clear ha444 a444; intro a445 ha445
    refine st_ge ha445 rfl rfl rfl rfl (fun K hK => ?_)
    refine e_call ha445 Try.func13 rfl rfl rfl rfl (rsame_any vo7 bl7 sz7 pe7 to7 0 0 hi7 pl7 [] [] _ _ _ _ _ _ _ _ _ _ _ _ _ _ _ (by omega) (by decide) (by decide) (fun _ h => by cases h) ((m68.rd (i := 62) rfl).any) ((Rd.nilN _ _ .i64 none)) ((Rd.l0 none 0 2)) ((m68.rd (i := 64) rfl).any) ((Rd.nilN _ _ .i64 none)) ((Rd.l0 none 0 2))) ?_
    rintro e w446 ⟨rfl, hb446⟩
    have m447 := m68.later hb446
    clear m68
    clear hb446
    refine ⟨_, rfl, fun a448 ha448 => ?_⟩; clear ha445 a445
    refine hK _ _ ?_; clear hK K
    refine st_g ha448 rfl rfl rfl rfl (y_not ha448 rfl) ?_
    clear ha448 a448; intro a449 ha449
    refine st_y ha449 rfl (y_pickF ha449 rfl rfl) ?_
    clear ha449 a449; intro a450 ha450
    refine wpList_nil ?_
    refine hK35 _ _ ?_; clear hK35; try clear K35
    refine wp_cond_false (ha450.ev (x := .tmp 55) rfl) ?_
    refine wp_skip ?_
    show K10 _ _
    exact hC10 _ _ ⟨_, ha450.only [2, 3, 5], m447.ren [(5, 61), (7, 7), (8, 8)] (by decide)⟩
end Go.Proofs.Ytocfbocdnklllaa.K
