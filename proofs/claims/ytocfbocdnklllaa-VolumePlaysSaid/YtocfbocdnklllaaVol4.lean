/- volume: pinsRight, Low, Right. -/
import Derived.Test.YtocfbocdnklllaaVol3
namespace Go.Proofs.Ytocfbocdnklllaa.K
open Go.ChangeShapes Go.WideShapes Go.ChangeAt Go.RowKit
set_option linter.unusedVariables false
set_option linter.unusedSimpArgs false

theorem sz2pn : (Try.prog.info? 2).map (·.size) = some 1 := by kernel_rfl
theorem sz34pn : (Try.prog.info? 34).map (·.size) = some 11 := by kernel_rfl
theorem sz2lo : (Try.prog.info? 2).map (·.size) = some 1 := by kernel_rfl
theorem sz34lo : (Try.prog.info? 34).map (·.size) = some 11 := by kernel_rfl
theorem fl25rt : flatS Try.prog 25 [.int .i64 0, .int .i64 0, .int .i64 0, .int .i64 0, .int .i64 0, .slice none 0 0, .int .i64 0, .int .i64 0, .int .i64 0, .slice none 0 0] = true := by kernel_rfl
theorem sz34rt : (Try.prog.info? 34).map (·.size) = some 11 := by kernel_rfl
theorem sz55rt : (Try.prog.info? 55).map (·.size) = some 2 := by kernel_rfl
theorem zc25rt : ((Try.prog.info? 25).bind (·.zero)).map (·.cells.toList) = some [.int .i64 0, .int .i64 0, .int .i64 0, .int .i64 0, .int .i64 0, .slice none 0 0, .int .i64 0, .int .i64 0, .int .i64 0, .slice none 0 0] := by kernel_rfl
theorem zc34rt : ((Try.prog.info? 34).bind (·.zero)).map (·.cells.toList) = some [.int .i64 0, .int .i64 0, .int .i64 0, .int .i64 0, .slice none 0 0, .int .i64 0, .int .i64 0, .bool false, .int .i64 0, .slice none 0 0, .slice none 0 0] := by kernel_rfl
theorem zc55rt : ((Try.prog.info? 55).bind (·.zero)).map (·.cells.toList) = some [.int .i64 0, .slice none 0 0] := by kernel_rfl

abbrev w1 : Int × List (Int × List Int) := (0, [])
theorem getW {l : List (Int × List (Int × List Int))} {k : Nat} {e : Int × List (Int × List Int)} (h : l[k]? = some e) : l.getD k w1 = e := by rw [List.getD, h]; rfl
def lastP (fl : Int) (pins : List Int) : Nat → Int
 | 0 => fl
 | k + 1 => pins.getD k 0
def PinsPre (fl : Int) (n : Nat) (pins : List Int) (k : Nat) : Prop := ∀ j, j < k → lastP fl pins j ≤ pins.getD j 0 ∧ pins.getD j 0 ≤ n
theorem pins_snoc {fl : Int} {n : Nat} {pins : List Int} {k : Nat} (h : PinsPre fl n pins k) (h1 : lastP fl pins k ≤ pins.getD k 0) (h2 : pins.getD k 0 ≤ n) : PinsPre fl n pins (k + 1) := fun j hj => by
 rcases Nat.lt_or_ge j k with h3 | h3
 · exact h j h3
 · obtain rfl : j = k := by omega
   exact ⟨h1, h2⟩
def lowL (n : Nat) (pins : List Int) : Int := pins.foldl min (n : Int)
theorem low_snoc {n : Nat} {pins : List Int} {k : Nat} (hk : k < pins.length) : min (lowL n (pins.take k)) (pins.getD k 0) = lowL n (pins.take (k + 1)) := by
 rw [List.take_succ_eq_append_getElem hk, lowL, lowL, List.foldl_append, List.getD, List.getElem?_eq_getElem hk]; rfl
def WrPre (bl sz : Int) (ws : List (Int × List (Int × List Int))) (k : Nat) : Prop := ∀ j, j < k → (ws.getD j w1).1 = j + 1 ∧ ItemsR bl sz (ws.getD j w1).2
theorem wr_snoc {bl sz : Int} {ws : List (Int × List (Int × List Int))} {k : Nat} {xs : Int} {xl : List (Int × List Int)} (h : WrPre bl sz ws k) (hes : ws[k]? = some (xs, xl)) (h1 : xs = k + 1) (h2 : ItemsR bl sz xl) : WrPre bl sz ws (k + 1) := fun j hj => by
 rcases Nat.lt_or_ge j k with h3 | h3
 · exact h j h3
 · obtain rfl : j = k := by omega
   rw [getW hes]; exact ⟨h1, h2⟩
def VolR (vo bl sz pe to ne fl : Int) (hi : Bool) (place pins : List Int) (ws : List (Int × List (Int × List Int))) : Prop := NewOk vo bl sz pe to place ∧ 0 ≤ ne ∧ ne ≤ to ∧ (hi = true → to ≠ 0) ∧ (hi = false → ne = to) ∧ 0 ≤ fl ∧ fl ≤ ws.length ∧ PinsPre fl ws.length pins pins.length ∧ WrPre bl sz ws ws.length
set_option maxRecDepth 100000
set_option maxHeartbeats 4000000
theorem vnew_yes (kd vo bl sz pe to at0 ix : Int) (place : List Int) (pp pi : Option Addr) (cp ni ci : Nat) (w0 : World) (h0 : Rd (fun _ => True) w0 (.slice pp place.length cp) (.ns .i64 place)) (hn : place.length ≤ 1000000) (hN : NewOk vo bl sz pe to place) :
   Calls Try.prog 11 #[.agg #[.int .i64 kd, .int .i64 vo, .int .i64 bl, .int .i64 sz, .int .i64 pe, .slice pp place.length cp, .int .i64 to, .int .i64 at0, .int .i64 ix, .slice pi ni ci]] w0 fun e w' => ∃ p c, e = .returned (.tuple #[.agg #[.int .i64 vo, .int .i64 bl, .int .i64 sz, .int .i64 pe, .slice p place.length c, .int .i64 to, .int .i64 0, .bool (decide (0 < to)), .int .i64 0, .slice none 0 0, .slice none 0 0], .int .i64 0]) ∧ Rd (New w0) w' (.slice p place.length c) (.ns .i64 place) ∧ Below w0.heap.size w0 w' :=
 (vnew_any kd vo bl sz pe to at0 ix place pp pi cp ni ci w0 h0 hn).mono (fun _ _ h => h.elim (fun h => h.2) (fun h => absurd hN h.1))
theorem vnew_no (kd vo bl sz pe to at0 ix : Int) (place : List Int) (pp pi : Option Addr) (cp ni ci : Nat) (w0 : World) (h0 : Rd (fun _ => True) w0 (.slice pp place.length cp) (.ns .i64 place)) (hn : place.length ≤ 1000000) (hN : ¬ NewOk vo bl sz pe to place) :
   Calls Try.prog 11 #[.agg #[.int .i64 kd, .int .i64 vo, .int .i64 bl, .int .i64 sz, .int .i64 pe, .slice pp place.length cp, .int .i64 to, .int .i64 at0, .int .i64 ix, .slice pi ni ci]] w0 fun e w' => e = .returned (.tuple #[.agg #[.int .i64 0, .int .i64 0, .int .i64 0, .int .i64 0, .slice none 0 0, .int .i64 0, .int .i64 0, .bool false, .int .i64 0, .slice none 0 0, .slice none 0 0], .int .i64 23]) ∧ Below w0.heap.size w0 w' :=
 (vnew_any kd vo bl sz pe to at0 ix place pp pi cp ni ci w0 h0 hn).mono (fun _ _ h => h.elim (fun h => absurd h.1 hN) (fun h => h.2))
theorem vitems_nn (bl sz : Int) (l : List (Int × List Int)) (p : Option Addr) (nn c : Nat) (w0 : World) (h0 : Rd (fun _ => True) w0 (.slice p nn c) (.l 2 (l.map itD))) (hl : l.length ≤ 1000000) :
   Calls Try.prog 28 #[.int .i64 bl, .int .i64 sz, .slice p nn c] w0 fun e w' => ∃ b : Bool, e = .returned (.bool b) ∧ (b = true ↔ ItemsR bl sz l) ∧ Below w0.heap.size w0 w' := by
 obtain rfl : nn = l.length := by obtain ⟨pq, cq, hv, _⟩ := h0.l_shape; injection hv with _ e2 _; rw [List.length_map] at e2; exact e2
 exact vitems_any bl sz l p c w0 h0 hl
theorem pins_any (vo bl sz pe to ne fl : Int) (hi : Bool) (place pins : List Int) (ws : List (Int × List (Int × List Int))) (pp pn pw : Option Addr) (cp cn9 cw : Nat) (w0 : World) (h1 : Rd (fun _ => True) w0 (.slice pn pins.length cn9) (.ns .i64 pins)) (hp : pins.length ≤ 1000000) :
   Calls Try.prog 45 #[.agg #[.int .i64 vo, .int .i64 bl, .int .i64 sz, .int .i64 pe, .slice pp place.length cp, .int .i64 to, .int .i64 ne, .bool hi, .int .i64 fl, .slice pn pins.length cn9, .slice pw ws.length cw]] w0 fun e w' => ∃ b : Bool, e = .returned (.bool b) ∧ (b = true ↔ PinsPre fl ws.length pins pins.length) ∧ Below w0.heap.size w0 w' := by
 refine enter (fn := Try.f45) Try.func45 rfl Try.ntmps45 rfl (fun a0 ha0 => ?_)
 simp only [List.zipIdx_cons, List.zipIdx_nil, List.map_cons, List.map_nil, Nat.reduceAdd, Nat.zero_add] at ha0
 have m0 := MemOk.start (fun _ => False) w0
 refine wp_seq_k (fun K0 hK0 => ?_)
 refine wp_region_lit ?_
 refine wpList_plain rfl (fun K hK => ?_)
 refine e_box ha0 m0 20 (cs := [_, _, _, _, _, _, _, _, _, _, _]) rfl rfl rfl ?_
 clear ha0 a0 m0; intro g1 a2 w2 ha2 m2 hB2 hg2
 clear hB2 hg2
 refine hK _ _ ?_; clear hK K
 refine st_y ha2 rfl (y_assign ha2 rfl) ?_
 clear ha2 a2; intro a3 ha3
 refine wpList_nil ?_
 refine hK0 _ _ ?_; clear hK0; try clear K0
 refine wp_seq_k (fun K1 hK1 => ?_)
 refine wp_region_lit ?_
 refine st_y ha3 rfl (y_fieldAddr ha3 (off := 8) rfl Try.underlying34 rfl (s := 0) (by kernel_rfl) rfl) ?_
 clear ha3 a3; intro a4 ha4
 refine st_y ha4 rfl (y_loadB1 ha4 m2 (i := 20) rfl rfl rfl Try.underlying2 rfl) ?_
 clear ha4 a4; intro a5 ha5
 refine st_y ha5 rfl (y_assign ha5 rfl) ?_
 clear ha5 a5; intro a6 ha6
 refine wpList_nil ?_
 refine hK1 _ _ ?_; clear hK1; try clear K1
 refine wp_seq_k (fun K2 hK2 => ?_)
 refine wp_seq_k (fun K3 hK3 => ?_)
 refine wp_region_lit ?_
 refine st_y ha6 rfl (y_fieldAddr ha6 (off := 9) rfl Try.underlying34 rfl (s := 0) (by kernel_rfl) rfl) ?_
 clear ha6 a6; intro a7 ha7
 refine st_y ha7 rfl (y_loadB1 ha7 m2 (i := 20) rfl rfl rfl Try.underlying31 rfl) ?_
 clear ha7 a7; intro a8 ha8
 refine st_y ha8 rfl (y_len ha8 rfl Try.underlying31) ?_
 clear ha8 a8; intro a9 ha9
 refine st_y ha9 rfl (y_move ha9 rfl) ?_
 clear ha9 a9; intro a10 ha10
 refine wpList_nil ?_
 refine hK3 _ _ ?_; clear hK3; try clear K3
 refine wp_block ?_
 refine wp_loop_ghost (fun g a w => ∃ (k B : Nat), k ≤ pins.length ∧ g = pins.length - k ∧ PinsPre fl ws.length pins k ∧ Has 26 [(1, .pointer (some ⟨B, 0, none⟩)), (3, .int .i64 (lastP fl pins k)), (9, .slice pn pins.length cn9), (10, .int .i64 pins.length), (11, .int .i64 k)] a ∧ MemOk (cn w0) w0 [(9, .box B 34 [.int .i64 vo, .int .i64 bl, .int .i64 sz, .int .i64 pe, .slice pp place.length cp, .int .i64 to, .int .i64 ne, .bool hi, .int .i64 fl, .slice pn pins.length cn9, .slice pw ws.length cw])] w) (pins.length) ?_ ?_
 · exact ⟨0, _, Nat.zero_le _, rfl, (fun j hj => by omega), ha10.only [1, 3, 9, 10, 11], m2.ren [(9, 20)] (by decide)⟩
 ·
  clear ha10 m2
  rintro g a11 w11 ⟨k, B, hkl, hg, hall, ha11, m11⟩
  refine wp_seq_k (fun K4 hK4 => ?_)
  refine wp_region_lit ?_
  refine st_y ha11 rfl (y_lss ha11 rfl rfl) ?_
  clear ha11 a11; intro a12 ha12
  refine wpList_nil ?_
  refine hK4 _ _ ?_; clear hK4; try clear K4
  refine wp_seq_k (fun K5 hK5 => ?_)
  refine bool_cases ha12 (t := 12) rfl (fun hb13 ha13 => ?_) (fun hb13 ha13 => ?_)
  ·
   clear ha12
   try simp only [Q1x, Q2x, Q3x, Q4x, Q5x, Q6x, Q7x, Q8x, Q9x, Q0x, Qax, Qbx] at hb13
   have hk : k < pins.length := by omega
   refine wp_cond_true (ha13.ev (x := .tmp 12) rfl) ?_
   refine wp_skip ?_
   refine hK5 _ _ ?_; clear hK5; try clear K5
   refine wp_seq_k (fun K6 hK6 => ?_)
   refine wp_block ?_
   refine wp_seq_k (fun K7 hK7 => ?_)
   refine wp_region_lit ?_
   obtain ⟨gx14, ox14, hp14, hl14, hrg14⟩ := h1.extN (k) hk
   cases hp14; clear hl14
   refine st_y ha13 rfl (y_idx ha13 rfl rfl Try.underlying31 sz2pn (k) rfl hk) ?_
   clear ha13 a12; intro a15 ha15
   refine st_y ha15 rfl (y_loadAt1 ha15 (hrg14 m11 rfl) (q := 0) rfl rfl rfl Try.underlying2 rfl) ?_
   clear ha15 a15; intro a16 ha16
   refine st_y ha16 rfl (y_assign ha16 rfl) ?_
   clear ha16 a16; intro a17 ha17
   refine wpList_nil ?_
   refine hK7 _ _ ?_; clear hK7; try clear K7
   refine wp_seq_k (fun K8 hK8 => ?_)
   refine wp_seq_k (fun K9 hK9 => ?_)
   refine wp_region_lit ?_
   refine st_y ha17 rfl (y_move ha17 rfl) ?_
   clear ha17 a17; intro a18 ha18
   refine st_y ha18 rfl (y_move ha18 rfl) ?_
   clear ha18 a18; intro a19 ha19
   refine st_y ha19 rfl (y_lss ha19 rfl rfl) ?_
   clear ha19 a19; intro a20 ha20
   refine st_y ha20 rfl (y_move ha20 rfl) ?_
   clear ha20 a20; intro a21 ha21
   refine bool_cases ha21 (t := 18) rfl (fun hb22 ha22 => ?_) (fun hb22 ha22 => ?_)
   ·
    clear ha21
    try simp only [Q1x, Q2x, Q3x, Q4x, Q5x, Q6x, Q7x, Q8x, Q9x, Q0x, Qax, Qbx] at hb22
    refine st_skip ha22 rfl rfl rfl rfl ?_
    clear ha22 a21; intro a23 ha23
    refine st_skip ha23 rfl rfl rfl rfl ?_
    clear ha23 a23; intro a24 ha24
    refine st_skip ha24 rfl rfl rfl rfl ?_
    clear ha24 a24; intro a25 ha25
    refine st_skip ha25 rfl rfl rfl rfl ?_
    clear ha25 a25; intro a26 ha26
    refine st_y ha26 rfl (y_pickT ha26 rfl rfl) ?_
    clear ha26 a26; intro a27 ha27
    refine wpList_nil ?_
    refine hK9 _ _ ?_; clear hK9; try clear K9
    refine wp_cond_true (ha27.ev (x := .tmp 23) rfl) ?_
    refine wp_seq_k (fun K10 hK10 => ?_)
    have ha28 : Has 26 [(1, _), (3, _), (9, _), (10, _), (11, _), (5, _)] a27 := ha27.only [1, 3, 9, 10, 11, 5]; clear ha27
    refine wp_region_lit ?_
    refine st_y ha28 rfl (y_assign ha28 rfl) ?_
    clear ha28 a27; intro a29 ha29
    refine wpList_nil ?_
    refine hK10 _ _ ?_; clear hK10; try clear K10
    refine wp_ret ?_
    try dsimp only [Exit.then, Exit.inBlock]
    refine (ret1 (fn := Try.f45) ha29 rfl rfl ?_)
    exact ⟨false, rfl, iff_of_false (by simp) (fun h => by have h9 := h k hk; omega), m11.below⟩
   ·
    clear ha21
    try simp only [Q1x, Q2x, Q3x, Q4x, Q5x, Q6x, Q7x, Q8x, Q9x, Q0x, Qax, Qbx] at hb22
    refine st_g ha22 rfl rfl rfl rfl (y_move ha22 rfl) ?_
    clear ha22 a21; intro a30 ha30
    refine st_g ha30 rfl rfl rfl rfl (y_loadBR ha30 m11 (i := 9) rfl rfl Try.underlying34 rfl sz34pn (by simp) (by dsimp only [List.drop, List.take] <;> rfl)) ?_
    clear ha30 a30; intro a31 ha31
    refine st_ge ha31 rfl rfl rfl rfl (fun K hK => ?_)
    refine e_call ha31 Try.func20 rfl rfl rfl rfl (vlen_any _ _ _ _ _ _ _ _ _ _ _ _ _ _ _ _ _ _) ?_
    rintro e w32 ⟨rfl, hb32⟩
    have m33 := m11.later hb32
    clear m11
    clear hb32
    refine ⟨_, rfl, fun a34 ha34 => ?_⟩; clear ha31 a31
    refine hK _ _ ?_; clear hK K
    refine st_g ha34 rfl rfl rfl rfl (y_gtr ha34 rfl rfl) ?_
    clear ha34 a34; intro a35 ha35
    refine st_y ha35 rfl (y_pickF ha35 rfl rfl) ?_
    clear ha35 a35; intro a36 ha36
    refine wpList_nil ?_
    refine hK9 _ _ ?_; clear hK9; try clear K9
    refine bool_cases ha36 (t := 23) rfl (fun hb37 ha37 => ?_) (fun hb37 ha37 => ?_)
    ·
     clear ha36
     try simp only [Q1x, Q2x, Q3x, Q4x, Q5x, Q6x, Q7x, Q8x, Q9x, Q0x, Qax, Qbx] at hb37
     refine wp_cond_true (ha37.ev (x := .tmp 23) rfl) ?_
     refine wp_seq_k (fun K11 hK11 => ?_)
     have ha38 : Has 26 [(1, _), (3, _), (9, _), (10, _), (11, _), (5, _)] a36 := ha37.only [1, 3, 9, 10, 11, 5]; clear ha37
     refine wp_region_lit ?_
     refine st_y ha38 rfl (y_assign ha38 rfl) ?_
     clear ha38 a36; intro a39 ha39
     refine wpList_nil ?_
     refine hK11 _ _ ?_; clear hK11; try clear K11
     refine wp_ret ?_
     try dsimp only [Exit.then, Exit.inBlock]
     refine (ret1 (fn := Try.f45) ha39 rfl rfl ?_)
     exact ⟨false, rfl, iff_of_false (by simp) (fun h => by have h9 := h k hk; omega), m33.below⟩
    ·
     clear ha36
     try simp only [Q1x, Q2x, Q3x, Q4x, Q5x, Q6x, Q7x, Q8x, Q9x, Q0x, Qax, Qbx] at hb37
     refine wp_cond_false (ha37.ev (x := .tmp 23) rfl) ?_
     refine wp_skip ?_
     refine hK8 _ _ ?_; clear hK8; try clear K8
     have ha40 : Has 26 [(1, _), (3, _), (9, _), (10, _), (11, _), (5, _)] a36 := ha37.only [1, 3, 9, 10, 11, 5]; clear ha37
     refine wp_region_lit ?_
     refine st_y ha40 rfl (y_move ha40 rfl) ?_
     clear ha40 a36; intro a41 ha41
     refine st_y ha41 rfl (y_assign ha41 rfl) ?_
     clear ha41 a41; intro a42 ha42
     refine wpList_nil ?_
     refine hK6 _ _ ?_; clear hK6; try clear K6
     refine wp_region_lit ?_
     refine st_y ha42 rfl (y_add ha42 rfl rfl (r := ((k + 1 : Nat) : Int)) (by rw [IntWalk.i64_in _ (by omega)]; omega)) ?_
     clear ha42 a42; intro a43 ha43
     refine st_y ha43 rfl (y_move ha43 rfl) ?_
     clear ha43 a43; intro a44 ha44
     refine wpList_nil ?_
     show ∃ n', n' < _ ∧ _
     exact ⟨pins.length - (k + 1), by omega, k + 1, _, by omega, rfl, pins_snoc hall (by omega) (by omega), ha44.only [1, 3, 9, 10, 11], m33.only [9]⟩
  ·
   clear ha12
   try simp only [Q1x, Q2x, Q3x, Q4x, Q5x, Q6x, Q7x, Q8x, Q9x, Q0x, Qax, Qbx] at hb13
   obtain rfl : k = pins.length := by omega
   refine wp_cond_false (ha13.ev (x := .tmp 12) rfl) ?_
   refine wp_exit ?_
   refine hK2 _ _ ?_; clear hK2; try clear K2
   refine wp_seq_k (fun K12 hK12 => ?_)
   refine wp_region_lit ?_
   refine st_y ha13 rfl (y_assign ha13 rfl) ?_
   clear ha13 a12; intro a45 ha45
   refine wpList_nil ?_
   refine hK12 _ _ ?_; clear hK12; try clear K12
   refine wp_ret ?_
   try dsimp only [Exit.then, Exit.inBlock]
   refine (ret1 (fn := Try.f45) ha45 rfl rfl ?_)
   exact ⟨true, rfl, iff_of_true rfl hall, m11.below⟩
theorem low_any (vo bl sz pe to ne fl : Int) (hi : Bool) (place pins : List Int) (ws : List (Int × List (Int × List Int))) (pp pn pw : Option Addr) (cp cn9 cw : Nat) (w0 : World) (h1 : Rd (fun _ => True) w0 (.slice pn pins.length cn9) (.ns .i64 pins)) (hp : pins.length ≤ 1000000) :
   Calls Try.prog 22 #[.agg #[.int .i64 vo, .int .i64 bl, .int .i64 sz, .int .i64 pe, .slice pp place.length cp, .int .i64 to, .int .i64 ne, .bool hi, .int .i64 fl, .slice pn pins.length cn9, .slice pw ws.length cw]] w0 fun e w' => e = .returned (.int .i64 (lowL ws.length pins)) ∧ Below w0.heap.size w0 w' := by
 refine enter (fn := Try.f22) Try.func22 rfl Try.ntmps22 rfl (fun a0 ha0 => ?_)
 simp only [List.zipIdx_cons, List.zipIdx_nil, List.map_cons, List.map_nil, Nat.reduceAdd, Nat.zero_add] at ha0
 have m0 := MemOk.start (fun _ => False) w0
 refine wp_seq_k (fun K0 hK0 => ?_)
 refine wp_region_lit ?_
 refine wpList_plain rfl (fun K hK => ?_)
 refine e_box ha0 m0 20 (cs := [_, _, _, _, _, _, _, _, _, _, _]) rfl rfl rfl ?_
 clear ha0 a0 m0; intro g1 a2 w2 ha2 m2 hB2 hg2
 clear hB2 hg2
 refine hK _ _ ?_; clear hK K
 refine st_y ha2 rfl (y_assign ha2 rfl) ?_
 clear ha2 a2; intro a3 ha3
 refine wpList_nil ?_
 refine hK0 _ _ ?_; clear hK0; try clear K0
 refine wp_seq_k (fun K1 hK1 => ?_)
 refine wp_region_lit ?_
 refine st_y ha3 rfl (y_loadBR ha3 m2 (i := 20) rfl rfl Try.underlying34 rfl sz34lo (by simp) (by dsimp only [List.drop, List.take] <;> rfl)) ?_
 clear ha3 a3; intro a4 ha4
 refine wpList_plain rfl (fun K hK => ?_)
 refine e_call ha4 Try.func20 rfl rfl rfl rfl (vlen_any _ _ _ _ _ _ _ _ _ _ _ _ _ _ _ _ _ _) ?_
 rintro e w5 ⟨rfl, hb5⟩
 have m6 := m2.later hb5
 clear m2
 clear hb5
 refine ⟨_, rfl, fun a7 ha7 => ?_⟩; clear ha4 a4
 refine hK _ _ ?_; clear hK K
 refine st_y ha7 rfl (y_assign ha7 rfl) ?_
 clear ha7 a7; intro a8 ha8
 refine wpList_nil ?_
 refine hK1 _ _ ?_; clear hK1; try clear K1
 refine wp_seq_k (fun K2 hK2 => ?_)
 refine wp_seq_k (fun K3 hK3 => ?_)
 refine wp_region_lit ?_
 refine st_y ha8 rfl (y_fieldAddr ha8 (off := 9) rfl Try.underlying34 rfl (s := 0) (by kernel_rfl) rfl) ?_
 clear ha8 a8; intro a9 ha9
 refine st_y ha9 rfl (y_loadB1 ha9 m6 (i := 20) rfl rfl rfl Try.underlying31 rfl) ?_
 clear ha9 a9; intro a10 ha10
 refine st_y ha10 rfl (y_len ha10 rfl Try.underlying31) ?_
 clear ha10 a10; intro a11 ha11
 refine st_y ha11 rfl (y_move ha11 rfl) ?_
 clear ha11 a11; intro a12 ha12
 refine wpList_nil ?_
 refine hK3 _ _ ?_; clear hK3; try clear K3
 refine wp_block ?_
 refine wp_loop_ghost (fun g a w => ∃ (k B : Nat), k ≤ pins.length ∧ g = pins.length - k ∧ Has 20 [(1, .pointer (some ⟨B, 0, none⟩)), (3, .int .i64 (lowL ws.length (pins.take k))), (9, .slice pn pins.length cn9), (10, .int .i64 pins.length), (11, .int .i64 k)] a ∧ MemOk (cn w0) w0 [(9, .box B 34 [.int .i64 vo, .int .i64 bl, .int .i64 sz, .int .i64 pe, .slice pp place.length cp, .int .i64 to, .int .i64 ne, .bool hi, .int .i64 fl, .slice pn pins.length cn9, .slice pw ws.length cw])] w) (pins.length) ?_ ?_
 · exact ⟨0, _, Nat.zero_le _, rfl, ha12.only [1, 3, 9, 10, 11], m6.ren [(9, 20)] (by decide)⟩
 ·
  clear ha12 m6
  rintro g a13 w13 ⟨k, B, hkl, hg, ha13, m13⟩
  refine wp_seq_k (fun K4 hK4 => ?_)
  refine wp_region_lit ?_
  refine st_y ha13 rfl (y_lss ha13 rfl rfl) ?_
  clear ha13 a13; intro a14 ha14
  refine wpList_nil ?_
  refine hK4 _ _ ?_; clear hK4; try clear K4
  refine wp_seq_k (fun K5 hK5 => ?_)
  refine bool_cases ha14 (t := 12) rfl (fun hb15 ha15 => ?_) (fun hb15 ha15 => ?_)
  ·
   clear ha14
   try simp only [Q1x, Q2x, Q3x, Q4x, Q5x, Q6x, Q7x, Q8x, Q9x, Q0x, Qax, Qbx] at hb15
   have hk : k < pins.length := by omega
   refine wp_cond_true (ha15.ev (x := .tmp 12) rfl) ?_
   refine wp_skip ?_
   refine hK5 _ _ ?_; clear hK5; try clear K5
   refine wp_seq_k (fun K6 hK6 => ?_)
   refine wp_block ?_
   refine wp_seq_k (fun K7 hK7 => ?_)
   refine wp_region_lit ?_
   obtain ⟨gx16, ox16, hp16, hl16, hrg16⟩ := h1.extN (k) hk
   cases hp16; clear hl16
   refine st_y ha15 rfl (y_idx ha15 rfl rfl Try.underlying31 sz2lo (k) rfl hk) ?_
   clear ha15 a14; intro a17 ha17
   refine st_y ha17 rfl (y_loadAt1 ha17 (hrg16 m13 rfl) (q := 0) rfl rfl rfl Try.underlying2 rfl) ?_
   clear ha17 a17; intro a18 ha18
   refine st_y ha18 rfl (y_assign ha18 rfl) ?_
   clear ha18 a18; intro a19 ha19
   refine wpList_nil ?_
   refine hK7 _ _ ?_; clear hK7; try clear K7
   refine wp_region_lit ?_
   refine st_y ha19 rfl (y_move ha19 rfl) ?_
   clear ha19 a19; intro a20 ha20
   refine st_y ha20 rfl (y_move ha20 rfl) ?_
   clear ha20 a20; intro a21 ha21
   refine st_y ha21 rfl (y_min ha21 rfl rfl rfl) ?_
   clear ha21 a21; intro a22 ha22
   refine st_y ha22 rfl (y_assign ha22 rfl) ?_
   clear ha22 a22; intro a23 ha23
   refine wpList_nil ?_
   refine hK6 _ _ ?_; clear hK6; try clear K6
   have ha24 : Has 20 [(1, _), (3, _), (9, _), (10, _), (11, _)] a23 := ha23.only [1, 3, 9, 10, 11]; clear ha23
   refine wp_region_lit ?_
   refine st_y ha24 rfl (y_add ha24 rfl rfl (r := ((k + 1 : Nat) : Int)) (by rw [IntWalk.i64_in _ (by omega)]; omega)) ?_
   clear ha24 a23; intro a25 ha25
   refine st_y ha25 rfl (y_move ha25 rfl) ?_
   clear ha25 a25; intro a26 ha26
   refine wpList_nil ?_
   show ∃ n', n' < _ ∧ _
   rw [low_snoc hk] at ha26
   exact ⟨pins.length - (k + 1), by omega, k + 1, _, by omega, rfl, ha26.only [1, 3, 9, 10, 11], m13.only [9]⟩
  ·
   clear ha14
   try simp only [Q1x, Q2x, Q3x, Q4x, Q5x, Q6x, Q7x, Q8x, Q9x, Q0x, Qax, Qbx] at hb15
   obtain rfl : k = pins.length := by omega
   refine wp_cond_false (ha15.ev (x := .tmp 12) rfl) ?_
   refine wp_exit ?_
   refine hK2 _ _ ?_; clear hK2; try clear K2
   refine wp_seq_k (fun K8 hK8 => ?_)
   refine wp_region_lit ?_
   refine st_y ha15 rfl (y_move ha15 rfl) ?_
   clear ha15 a14; intro a27 ha27
   refine st_y ha27 rfl (y_assign ha27 rfl) ?_
   clear ha27 a27; intro a28 ha28
   refine wpList_nil ?_
   refine hK8 _ _ ?_; clear hK8; try clear K8
   refine wp_ret ?_
   try dsimp only [Exit.then, Exit.inBlock]
   refine (ret1 (fn := Try.f22) ha28 rfl rfl ?_)
   exact ⟨by rw [List.take_length], m13.below⟩
theorem vright_any (vo bl sz pe to ne fl : Int) (hi : Bool) (place pins : List Int) (ws : List (Int × List (Int × List Int))) (pp pn pw : Option Addr) (cp cn9 cw : Nat) (w0 : World) (h0 : Rd (fun _ => True) w0 (.slice pp place.length cp) (.ns .i64 place)) (h1 : Rd (fun _ => True) w0 (.slice pn pins.length cn9) (.ns .i64 pins)) (h2 : Rd (fun _ => True) w0 (.slice pw ws.length cw) (.l 2 (ws.map wrD))) (hn : place.length ≤ 1000000) (hp : pins.length ≤ 1000000) (hl : ws.length ≤ 1000000) (hwl : ∀ e ∈ ws, e.2.length ≤ 1000000) :
   Calls Try.prog 19 #[.agg #[.int .i64 vo, .int .i64 bl, .int .i64 sz, .int .i64 pe, .slice pp place.length cp, .int .i64 to, .int .i64 ne, .bool hi, .int .i64 fl, .slice pn pins.length cn9, .slice pw ws.length cw]] w0 fun e w' => ∃ b : Bool, e = .returned (.bool b) ∧ (b = true ↔ VolR vo bl sz pe to ne fl hi place pins ws) ∧ Below w0.heap.size w0 w' := by
 refine enter (fn := Try.f19) Try.func19 rfl Try.ntmps19 rfl (fun a0 ha0 => ?_)
 simp only [List.zipIdx_cons, List.zipIdx_nil, List.map_cons, List.map_nil, Nat.reduceAdd, Nat.zero_add] at ha0
 have m0 := MemOk.start (fun _ => False) w0
 refine wp_seq_k (fun K0 hK0 => ?_)
 refine wp_region_lit ?_
 refine wpList_plain rfl (fun K hK => ?_)
 refine e_box ha0 m0 20 (cs := [_, _, _, _, _, _, _, _, _, _, _]) rfl rfl rfl ?_
 clear ha0 a0 m0; intro g1 a2 w2 ha2 m2 hB2 hg2
 clear hB2 hg2
 refine hK _ _ ?_; clear hK K
 refine st_y ha2 rfl (y_assign ha2 rfl) ?_
 clear ha2 a2; intro a3 ha3
 refine wpList_nil ?_
 refine hK0 _ _ ?_; clear hK0; try clear K0
 refine wp_seq_k (fun K1 hK1 => ?_)
 by_cases hN : NewOk vo bl sz pe to place
 ·
  refine wp_region_lit ?_
  refine st_y ha3 rfl (y_fieldAddr ha3 (off := 0) rfl Try.underlying34 rfl (s := 0) (by kernel_rfl) rfl) ?_
  clear ha3 a3; intro a4 ha4
  refine st_y ha4 rfl (y_loadB1 ha4 m2 (i := 20) rfl rfl rfl Try.underlying3 rfl) ?_
  clear ha4 a4; intro a5 ha5
  refine st_y ha5 rfl (y_fieldAddr ha5 (off := 1) rfl Try.underlying34 rfl (s := 0) (by kernel_rfl) rfl) ?_
  clear ha5 a5; intro a6 ha6
  refine st_y ha6 rfl (y_loadB1 ha6 m2 (i := 20) rfl rfl rfl Try.underlying3 rfl) ?_
  clear ha6 a6; intro a7 ha7
  refine st_y ha7 rfl (y_fieldAddr ha7 (off := 2) rfl Try.underlying34 rfl (s := 0) (by kernel_rfl) rfl) ?_
  clear ha7 a7; intro a8 ha8
  refine st_y ha8 rfl (y_loadB1 ha8 m2 (i := 20) rfl rfl rfl Try.underlying3 rfl) ?_
  clear ha8 a8; intro a9 ha9
  refine st_y ha9 rfl (y_fieldAddr ha9 (off := 3) rfl Try.underlying34 rfl (s := 0) (by kernel_rfl) rfl) ?_
  clear ha9 a9; intro a10 ha10
  refine st_y ha10 rfl (y_loadB1 ha10 m2 (i := 20) rfl rfl rfl Try.underlying3 rfl) ?_
  clear ha10 a10; intro a11 ha11
  refine st_y ha11 rfl (y_fieldAddr ha11 (off := 4) rfl Try.underlying34 rfl (s := 0) (by kernel_rfl) rfl) ?_
  clear ha11 a11; intro a12 ha12
  refine st_y ha12 rfl (y_loadB1 ha12 m2 (i := 20) rfl rfl rfl Try.underlying22 rfl) ?_
  clear ha12 a12; intro a13 ha13
  refine st_y ha13 rfl (y_fieldAddr ha13 (off := 5) rfl Try.underlying34 rfl (s := 0) (by kernel_rfl) rfl) ?_
  clear ha13 a13; intro a14 ha14
  refine st_y ha14 rfl (y_loadB1 ha14 m2 (i := 20) rfl rfl rfl Try.underlying3 rfl) ?_
  clear ha14 a14; intro a15 ha15
  refine st_y ha15 rfl (y_build ha15 rfl zc25rt fl25rt rfl (by dsimp only [setL, List.set] <;> rfl)) ?_
  clear ha15 a15; intro a16 ha16
  refine wpList_plain rfl (fun K hK => ?_)
  refine e_call ha16 Try.func11 rfl rfl rfl rfl (vnew_yes _ _ _ _ _ _ _ _ place _ _ _ _ _ _ ((h0.now' m2 rfl).any) hn hN) ?_
  rintro e w17 ⟨p17, c17, rfl, hd17, hb17⟩
  have m18 := m2.callF 21 rfl hb17 hd17
  clear m2
  clear hb17 hd17
  refine ⟨_, rfl, fun a19 ha19 => ?_⟩; clear ha16 a16
  refine hK _ _ ?_; clear hK K
  refine st_y ha19 rfl (y_move ha19 rfl) ?_
  clear ha19 a19; intro a20 ha20
  refine st_y ha20 rfl (y_extract ha20 rfl rfl) ?_
  clear ha20 a20; intro a21 ha21
  refine st_y ha21 rfl (y_extract ha21 rfl rfl) ?_
  clear ha21 a21; intro a22 ha22
  refine wpList_plain rfl (fun K hK => ?_)
  refine e_alloc ha22 m18 22 zc34rt rfl ?_
  clear ha22 a22 m18; intro g23 a24 w24 ha24 m24 hB24 hg24
  clear hB24 hg24
  refine hK _ _ ?_; clear hK K
  refine wpList_plain rfl (fun K hK => ?_)
  refine e_storeW ha24 m24 22 rfl rfl rfl rfl rfl sz34rt ?_
  clear m24; intro w25 m25 hB25
  clear hB25
  refine hK _ _ ?_; clear hK K
  refine st_y ha24 rfl (y_assign ha24 rfl) ?_
  clear ha24 a24; intro a26 ha26
  refine wpList_nil ?_
  refine hK1 _ _ ?_; clear hK1; try clear K1
  refine wp_seq_k (fun K2 hK2 => ?_)
  refine wp_seq_k (fun K3 hK3 => ?_)
  have ha27 : Has 94 [(1, _), (2, _), (4, _)] a26 := ha26.only [1, 2, 4]; clear ha26
  refine wp_region_lit ?_
  refine st_y ha27 rfl (y_move ha27 rfl) ?_
  clear ha27 a26; intro a28 ha28
  refine st_y ha28 rfl (y_neq ha28 rfl rfl) ?_
  clear ha28 a28; intro a29 ha29
  refine st_y ha29 rfl (y_move ha29 rfl) ?_
  clear ha29 a29; intro a30 ha30
  refine bool_cases ha30 (t := 26) rfl (fun hb31 ha31 => ?_) (fun hb31 ha31 => ?_)
  · exact absurd hb31 (by simp)
  clear ha30 hb31
  refine st_g ha31 rfl rfl rfl rfl (y_fieldAddr ha31 (off := 6) rfl Try.underlying34 rfl (s := 0) (by kernel_rfl) rfl) ?_
  clear ha31 a30; intro a32 ha32
  refine st_g ha32 rfl rfl rfl rfl (y_loadB1 ha32 m25 (i := 20) rfl rfl rfl Try.underlying3 rfl) ?_
  clear ha32 a32; intro a33 ha33
  refine st_g ha33 rfl rfl rfl rfl (y_fieldAddr ha33 (off := 5) rfl Try.underlying34 rfl (s := 0) (by kernel_rfl) rfl) ?_
  clear ha33 a33; intro a34 ha34
  refine st_g ha34 rfl rfl rfl rfl (y_loadB1 ha34 m25 (i := 20) rfl rfl rfl Try.underlying3 rfl) ?_
  clear ha34 a34; intro a35 ha35
  refine st_ge ha35 rfl rfl rfl rfl (fun K hK => ?_)
  refine e_call ha35 Try.func35 rfl rfl rfl rfl (within_any _ _ _ _) ?_
  rintro e w36 ⟨rfl, hb36⟩
  have m37 := m25.later hb36
  clear m25
  clear hb36
  refine ⟨_, rfl, fun a38 ha38 => ?_⟩; clear ha35 a35
  refine hK _ _ ?_; clear hK K
  refine st_g ha38 rfl rfl rfl rfl (y_not ha38 rfl) ?_
  clear ha38 a38; intro a39 ha39
  refine st_y ha39 rfl (y_pickF ha39 rfl rfl) ?_
  clear ha39 a39; intro a40 ha40
  refine st_y ha40 rfl (y_move ha40 rfl) ?_
  clear ha40 a40; intro a41 ha41
  refine bool_cases ha41 (t := 34) rfl (fun hb42 ha42 => ?_) (fun hb42 ha42 => ?_)
  ·
   clear ha41
   try simp only [Q1x, Q2x, Q3x, Q4x, Q5x, Q6x, Q7x, Q8x, Q9x, Q0x, Qax, Qbx] at hb42
   refine st_skip ha42 rfl rfl rfl rfl ?_
   clear ha42 a41; intro a43 ha43
   refine st_skip ha43 rfl rfl rfl rfl ?_
   clear ha43 a43; intro a44 ha44
   refine st_skip ha44 rfl rfl rfl rfl ?_
   clear ha44 a44; intro a45 ha45
   refine st_skipU ha45 rfl rfl rfl rfl ?_
   clear ha45 a45; intro a46 ha46
   refine st_skipU ha46 rfl rfl rfl rfl ?_
   clear ha46 a46; intro a47 ha47
   refine st_skipU ha47 rfl rfl rfl rfl ?_
   clear ha47 a47; intro a48 ha48
   refine st_skip ha48 rfl rfl rfl rfl ?_
   clear ha48 a48; intro a49 ha49
   refine st_y ha49 rfl (y_pickT ha49 rfl rfl) ?_
   clear ha49 a49; intro a50 ha50
   refine st_y ha50 rfl (y_move ha50 rfl) ?_
   clear ha50 a50; intro a51 ha51
   refine st_skip ha51 rfl rfl rfl rfl ?_
   clear ha51 a51; intro a52 ha52
   refine st_skip ha52 rfl rfl rfl rfl ?_
   clear ha52 a52; intro a53 ha53
   refine st_skip ha53 rfl rfl rfl rfl ?_
   clear ha53 a53; intro a54 ha54
   refine st_skip ha54 rfl rfl rfl rfl ?_
   clear ha54 a54; intro a55 ha55
   refine st_skipU ha55 rfl rfl rfl rfl ?_
   clear ha55 a55; intro a56 ha56
   refine st_skipU ha56 rfl rfl rfl rfl ?_
   clear ha56 a56; intro a57 ha57
   refine st_skipU ha57 rfl rfl rfl rfl ?_
   clear ha57 a57; intro a58 ha58
   refine st_skipU ha58 rfl rfl rfl rfl ?_
   clear ha58 a58; intro a59 ha59
   refine st_skipU ha59 rfl rfl rfl rfl ?_
   clear ha59 a59; intro a60 ha60
   refine st_skip ha60 rfl rfl rfl rfl ?_
   clear ha60 a60; intro a61 ha61
   refine st_y ha61 rfl (y_pickT ha61 rfl rfl) ?_
   clear ha61 a61; intro a62 ha62
   refine wpList_nil ?_
   refine hK3 _ _ ?_; clear hK3; try clear K3
   refine wp_cond_true (ha62.ev (x := .tmp 54) rfl) ?_
   refine wp_seq_k (fun K4 hK4 => ?_)
   have ha63 : Has 94 [(1, _), (2, _)] a62 := ha62.only [1, 2]; clear ha62
   refine wp_region_lit ?_
   refine st_y ha63 rfl (y_assign ha63 rfl) ?_
   clear ha63 a62; intro a64 ha64
   refine wpList_nil ?_
   refine hK4 _ _ ?_; clear hK4; try clear K4
   refine wp_ret ?_
   try dsimp only [Exit.then, Exit.inBlock]
   refine (ret1 (fn := Try.f19) ha64 rfl rfl ?_)
   exact ⟨false, rfl, iff_of_false (by simp) (fun h => by obtain ⟨v1, v2, v3, v4, v5, v6, v7, v8, v9⟩ := h; first | exact hN v1 | omega | (simp_all; done) | (simp_all; omega) | (have v10 := hpb.2 v8; simp_all; done) | (have v10 := v9 k hk; rw [getW hes] at v10; have v11 := hib.2 v10.2; simp_all; done) | (have v10 := v9 k hk; rw [getW hes] at v10; have v12 := v10.1; dsimp only at v12; omega)), m37.below⟩
  ·
   clear ha41
   try simp only [Q1x, Q2x, Q3x, Q4x, Q5x, Q6x, Q7x, Q8x, Q9x, Q0x, Qax, Qbx] at hb42
   refine st_g ha42 rfl rfl rfl rfl (y_fieldAddr ha42 (off := 7) rfl Try.underlying34 rfl (s := 0) (by kernel_rfl) rfl) ?_
   clear ha42 a41; intro a65 ha65
   refine st_g ha65 rfl rfl rfl rfl (y_loadB1 ha65 m37 (i := 20) rfl rfl rfl Try.underlying4 rfl) ?_
   clear ha65 a65; intro a66 ha66
   refine st_g ha66 rfl rfl rfl rfl (y_move ha66 rfl) ?_
   clear ha66 a66; intro a67 ha67
   refine bool_cases ha67 (t := 37) rfl (fun hb68 ha68 => ?_) (fun hb68 ha68 => ?_)
   ·
    clear ha67
    try simp only [Q1x, Q2x, Q3x, Q4x, Q5x, Q6x, Q7x, Q8x, Q9x, Q0x, Qax, Qbx] at hb68
    refine st_g ha68 rfl rfl rfl rfl (y_fieldAddr ha68 (off := 5) rfl Try.underlying34 rfl (s := 0) (by kernel_rfl) rfl) ?_
    clear ha68 a67; intro a69 ha69
    refine st_g ha69 rfl rfl rfl rfl (y_loadB1 ha69 m37 (i := 20) rfl rfl rfl Try.underlying3 rfl) ?_
    clear ha69 a69; intro a70 ha70
    refine st_g ha70 rfl rfl rfl rfl (y_eql ha70 rfl rfl) ?_
    clear ha70 a70; intro a71 ha71
    refine st_g ha71 rfl rfl rfl rfl (y_pickT ha71 rfl rfl) ?_
    clear ha71 a71; intro a72 ha72
    refine st_y ha72 rfl (y_pickF ha72 rfl rfl) ?_
    clear ha72 a72; intro a73 ha73
    refine st_y ha73 rfl (y_move ha73 rfl) ?_
    clear ha73 a73; intro a74 ha74
    refine bool_cases ha74 (t := 43) rfl (fun hb75 ha75 => ?_) (fun hb75 ha75 => ?_)
    ·
     clear ha74
     try simp only [Q1x, Q2x, Q3x, Q4x, Q5x, Q6x, Q7x, Q8x, Q9x, Q0x, Qax, Qbx] at hb75
     refine st_skip ha75 rfl rfl rfl rfl ?_
     clear ha75 a74; intro a76 ha76
     refine st_skip ha76 rfl rfl rfl rfl ?_
     clear ha76 a76; intro a77 ha77
     refine st_skip ha77 rfl rfl rfl rfl ?_
     clear ha77 a77; intro a78 ha78
     refine st_skip ha78 rfl rfl rfl rfl ?_
     clear ha78 a78; intro a79 ha79
     refine st_skipU ha79 rfl rfl rfl rfl ?_
     clear ha79 a79; intro a80 ha80
     refine st_skipU ha80 rfl rfl rfl rfl ?_
     clear ha80 a80; intro a81 ha81
     refine st_skipU ha81 rfl rfl rfl rfl ?_
     clear ha81 a81; intro a82 ha82
     refine st_skipU ha82 rfl rfl rfl rfl ?_
     clear ha82 a82; intro a83 ha83
     refine st_skipU ha83 rfl rfl rfl rfl ?_
     clear ha83 a83; intro a84 ha84
     refine st_skip ha84 rfl rfl rfl rfl ?_
     clear ha84 a84; intro a85 ha85
     refine st_y ha85 rfl (y_pickT ha85 rfl rfl) ?_
     clear ha85 a85; intro a86 ha86
     refine wpList_nil ?_
     refine hK3 _ _ ?_; clear hK3; try clear K3
     refine wp_cond_true (ha86.ev (x := .tmp 54) rfl) ?_
     refine wp_seq_k (fun K5 hK5 => ?_)
     have ha87 : Has 94 [(1, _), (2, _)] a86 := ha86.only [1, 2]; clear ha86
     refine wp_region_lit ?_
     refine st_y ha87 rfl (y_assign ha87 rfl) ?_
     clear ha87 a86; intro a88 ha88
     refine wpList_nil ?_
     refine hK5 _ _ ?_; clear hK5; try clear K5
     refine wp_ret ?_
     try dsimp only [Exit.then, Exit.inBlock]
     refine (ret1 (fn := Try.f19) ha88 rfl rfl ?_)
     exact ⟨false, rfl, iff_of_false (by simp) (fun h => by obtain ⟨v1, v2, v3, v4, v5, v6, v7, v8, v9⟩ := h; first | exact hN v1 | omega | (simp_all; done) | (simp_all; omega) | (have v10 := hpb.2 v8; simp_all; done) | (have v10 := v9 k hk; rw [getW hes] at v10; have v11 := hib.2 v10.2; simp_all; done) | (have v10 := v9 k hk; rw [getW hes] at v10; have v12 := v10.1; dsimp only at v12; omega)), m37.below⟩
    ·
     clear ha74
     try simp only [Q1x, Q2x, Q3x, Q4x, Q5x, Q6x, Q7x, Q8x, Q9x, Q0x, Qax, Qbx] at hb75
     refine st_g ha75 rfl rfl rfl rfl (y_fieldAddr ha75 (off := 7) rfl Try.underlying34 rfl (s := 0) (by kernel_rfl) rfl) ?_
     clear ha75 a74; intro a89 ha89
     refine st_g ha89 rfl rfl rfl rfl (y_loadB1 ha89 m37 (i := 20) rfl rfl rfl Try.underlying4 rfl) ?_
     clear ha89 a89; intro a90 ha90
     refine st_g ha90 rfl rfl rfl rfl (y_not ha90 rfl) ?_
     clear ha90 a90; intro a91 ha91
     refine st_g ha91 rfl rfl rfl rfl (y_move ha91 rfl) ?_
     clear ha91 a91; intro a92 ha92
     refine bool_cases ha92 (t := 47) rfl (fun hb93 ha93 => ?_) (fun hb93 ha93 => ?_)
     ·
      clear ha92
      try simp only [Q1x, Q2x, Q3x, Q4x, Q5x, Q6x, Q7x, Q8x, Q9x, Q0x, Qax, Qbx] at hb93
      refine st_g ha93 rfl rfl rfl rfl (y_fieldAddr ha93 (off := 6) rfl Try.underlying34 rfl (s := 0) (by kernel_rfl) rfl) ?_
      clear ha93 a92; intro a94 ha94
      refine st_g ha94 rfl rfl rfl rfl (y_loadB1 ha94 m37 (i := 20) rfl rfl rfl Try.underlying3 rfl) ?_
      clear ha94 a94; intro a95 ha95
      refine st_g ha95 rfl rfl rfl rfl (y_fieldAddr ha95 (off := 5) rfl Try.underlying34 rfl (s := 0) (by kernel_rfl) rfl) ?_
      clear ha95 a95; intro a96 ha96
      refine st_g ha96 rfl rfl rfl rfl (y_loadB1 ha96 m37 (i := 20) rfl rfl rfl Try.underlying3 rfl) ?_
      clear ha96 a96; intro a97 ha97
      refine st_g ha97 rfl rfl rfl rfl (y_neq ha97 rfl rfl) ?_
      clear ha97 a97; intro a98 ha98
      refine st_g ha98 rfl rfl rfl rfl (y_pickT ha98 rfl rfl) ?_
      clear ha98 a98; intro a99 ha99
      refine st_y ha99 rfl (y_pickF ha99 rfl rfl) ?_
      clear ha99 a99; intro a100 ha100
      refine wpList_nil ?_
      refine hK3 _ _ ?_; clear hK3; try clear K3
      refine bool_cases ha100 (t := 54) rfl (fun hb101 ha101 => ?_) (fun hb101 ha101 => ?_)
      ·
       clear ha100
       try simp only [Q1x, Q2x, Q3x, Q4x, Q5x, Q6x, Q7x, Q8x, Q9x, Q0x, Qax, Qbx] at hb101
       refine wp_cond_true (ha101.ev (x := .tmp 54) rfl) ?_
       refine wp_seq_k (fun K6 hK6 => ?_)
       have ha102 : Has 94 [(1, _), (2, _)] a100 := ha101.only [1, 2]; clear ha101
       refine wp_region_lit ?_
       refine st_y ha102 rfl (y_assign ha102 rfl) ?_
       clear ha102 a100; intro a103 ha103
       refine wpList_nil ?_
       refine hK6 _ _ ?_; clear hK6; try clear K6
       refine wp_ret ?_
       try dsimp only [Exit.then, Exit.inBlock]
       refine (ret1 (fn := Try.f19) ha103 rfl rfl ?_)
       exact ⟨false, rfl, iff_of_false (by simp) (fun h => by obtain ⟨v1, v2, v3, v4, v5, v6, v7, v8, v9⟩ := h; first | exact hN v1 | omega | (simp_all; done) | (simp_all; omega) | (have v10 := hpb.2 v8; simp_all; done) | (have v10 := v9 k hk; rw [getW hes] at v10; have v11 := hib.2 v10.2; simp_all; done) | (have v10 := v9 k hk; rw [getW hes] at v10; have v12 := v10.1; dsimp only at v12; omega)), m37.below⟩
      ·
       clear ha100
       try simp only [Q1x, Q2x, Q3x, Q4x, Q5x, Q6x, Q7x, Q8x, Q9x, Q0x, Qax, Qbx] at hb101
       refine wp_cond_false (ha101.ev (x := .tmp 54) rfl) ?_
       refine wp_skip ?_
       refine hK2 _ _ ?_; clear hK2; try clear K2
       refine wp_seq_k (fun K7 hK7 => ?_)
       refine wp_seq_k (fun K8 hK8 => ?_)
       have ha104 : Has 94 [(1, _), (2, _)] a100 := ha101.only [1, 2]; clear ha101
       have m105 : MemOk _ _ [(20, _), (21, _), (22, _)] _ := m37.only [20, 21, 22]; clear m37
       refine region_m 15 (B := [(20, _), (21, _), (22, _)]) (m105.to ⟨il, il, il, trivial⟩) m105 (by kernel_rfl) (fun w106 mB106 m106 => ?_); clear m105 mB106
       refine dyn 0 ha104 rfl rfl (m106.to ⟨il, il, il, trivial⟩) (fun W => y_fieldAddr ha104 (off := 8) rfl Try.underlying34 rfl (s := 0) (by kernel_rfl) rfl) ?_
       clear ha104 a100; intro a107 ha107
       refine dh 1 ha107 rfl rfl (m106.to ⟨il, il, il, trivial⟩) (fun W hW => y_loadB1 ha107 hW (i := 20) rfl rfl rfl Try.underlying2 rfl) ?_
       clear ha107 a107; intro a108 ha108
       refine dyn 2 ha108 rfl rfl (m106.to ⟨il, il, il, trivial⟩) (fun W => y_lss ha108 rfl rfl) ?_
       clear ha108 a108; intro a109 ha109
       refine dyn 3 ha109 rfl rfl (m106.to ⟨il, il, il, trivial⟩) (fun W => y_move ha109 rfl) ?_
       clear ha109 a109; intro a110 ha110
       refine bool_cases ha110 (t := 58) rfl (fun hb111 ha111 => ?_) (fun hb111 ha111 => ?_)
       ·
        clear ha110
        try simp only [Q1x, Q2x, Q3x, Q4x, Q5x, Q6x, Q7x, Q8x, Q9x, Q0x, Qax, Qbx] at hb111
        refine dskipn 4 ha111 rfl rfl rfl rfl rfl (m106.to ⟨il, il, il, trivial⟩) ?_
        clear ha111 a110; intro a112 ha112
        refine dskipn 5 ha112 rfl rfl rfl rfl rfl (m106.to ⟨il, il, il, trivial⟩) ?_
        clear ha112 a112; intro a113 ha113
        refine dskipn 6 ha113 rfl rfl rfl rfl rfl (m106.to ⟨il, il, il, trivial⟩) ?_
        clear ha113 a113; intro a114 ha114
        refine dskipn 7 ha114 rfl rfl rfl rfl rfl (m106.to ⟨il, il, il, trivial⟩) ?_
        clear ha114 a114; intro a115 ha115
        refine dskipn 8 ha115 rfl rfl rfl rfl rfl (m106.to ⟨il, il, il, trivial⟩) ?_
        clear ha115 a115; intro a116 ha116
        refine dyn 9 ha116 rfl rfl (m106.to ⟨il, il, il, trivial⟩) (fun W => y_pickT ha116 rfl rfl) ?_
        clear ha116 a116; intro a117 ha117
        refine dyn 10 ha117 rfl rfl (m106.to ⟨il, il, il, trivial⟩) (fun W => y_move ha117 rfl) ?_
        clear ha117 a117; intro a118 ha118
        refine dskipn 11 ha118 rfl rfl rfl rfl rfl (m106.to ⟨il, il, il, trivial⟩) ?_
        clear ha118 a118; intro a119 ha119
        refine dskipn 12 ha119 rfl rfl rfl rfl rfl (m106.to ⟨il, il, il, trivial⟩) ?_
        clear ha119 a119; intro a120 ha120
        refine dskipn 13 ha120 rfl rfl rfl rfl rfl (m106.to ⟨il, il, il, trivial⟩) ?_
        clear ha120 a120; intro a121 ha121
        refine dyn 14 ha121 rfl rfl (m106.to ⟨il, il, il, trivial⟩) (fun W => y_pickT ha121 rfl rfl) ?_
        clear ha121 a121; intro a122 ha122
        refine wpAnyE_done (by kernel_rfl) ?_ _
        refine hK8 _ _ ?_; clear hK8; try clear K8
        refine wp_cond_true (ha122.ev (x := .tmp 69) rfl) ?_
        refine wp_seq_k (fun K9 hK9 => ?_)
        have ha123 : Has 94 [(1, _), (2, _)] a122 := ha122.only [1, 2]; clear ha122
        refine wp_region_lit ?_
        refine st_y ha123 rfl (y_assign ha123 rfl) ?_
        clear ha123 a122; intro a124 ha124
        refine wpList_nil ?_
        refine hK9 _ _ ?_; clear hK9; try clear K9
        refine wp_ret ?_
        try dsimp only [Exit.then, Exit.inBlock]
        refine (ret1 (fn := Try.f19) ha124 rfl rfl ?_)
        exact ⟨false, rfl, iff_of_false (by simp) (fun h => by obtain ⟨v1, v2, v3, v4, v5, v6, v7, v8, v9⟩ := h; first | exact hN v1 | omega | (simp_all; done) | (simp_all; omega) | (have v10 := hpb.2 v8; simp_all; done) | (have v10 := v9 k hk; rw [getW hes] at v10; have v11 := hib.2 v10.2; simp_all; done) | (have v10 := v9 k hk; rw [getW hes] at v10; have v12 := v10.1; dsimp only at v12; omega)), m106.below⟩
       ·
        clear ha110
        try simp only [Q1x, Q2x, Q3x, Q4x, Q5x, Q6x, Q7x, Q8x, Q9x, Q0x, Qax, Qbx] at hb111
        refine dygn 4 ha111 rfl rfl rfl rfl rfl (m106.to ⟨il, il, il, trivial⟩) (fun W => y_fieldAddr ha111 (off := 8) rfl Try.underlying34 rfl (s := 0) (by kernel_rfl) rfl) ?_
        clear ha111 a110; intro a125 ha125
        refine dhg 5 ha125 rfl rfl rfl rfl rfl (m106.to ⟨il, il, il, trivial⟩) (fun W hW => y_loadB1 ha125 hW (i := 20) rfl rfl rfl Try.underlying2 rfl) ?_
        clear ha125 a125; intro a126 ha126
        refine dhg 6 ha126 rfl rfl rfl rfl rfl (m106.to ⟨il, il, il, trivial⟩) (fun W hW => y_loadBR ha126 hW (i := 20) rfl rfl Try.underlying34 rfl sz34rt (by simp) (by dsimp only [List.drop, List.take] <;> rfl)) ?_
        clear ha126 a126; intro a127 ha127
        refine stepE_only 7 rfl (by kernel_rfl) (wantedG ha127 rfl rfl rfl rfl) (fun K hK => ?_)
        refine e_call ha127 Try.func20 rfl rfl rfl rfl (vlen_any _ _ _ _ _ _ _ _ _ _ _ _ _ _ _ _ _ _) ?_
        rintro e w128 ⟨rfl, hb128⟩
        have m129 := m106.later hb128
        clear m106
        clear hb128
        refine ⟨_, rfl, fun a130 ha130 => ?_⟩; clear ha127 a127
        refine hK _ _ (m129.to ⟨il, il, il, trivial⟩) ?_; clear hK K
        refine dygn 8 ha130 rfl rfl rfl rfl rfl (m129.to ⟨il, il, il, trivial⟩) (fun W => y_gtr ha130 rfl rfl) ?_
        clear ha130 a130; intro a131 ha131
        refine dyn 9 ha131 rfl rfl (m129.to ⟨il, il, il, trivial⟩) (fun W => y_pickF ha131 rfl rfl) ?_
        clear ha131 a131; intro a132 ha132
        refine dyn 10 ha132 rfl rfl (m129.to ⟨il, il, il, trivial⟩) (fun W => y_move ha132 rfl) ?_
        clear ha132 a132; intro a133 ha133
        refine bool_cases ha133 (t := 65) rfl (fun hb134 ha134 => ?_) (fun hb134 ha134 => ?_)
        ·
         clear ha133
         try simp only [Q1x, Q2x, Q3x, Q4x, Q5x, Q6x, Q7x, Q8x, Q9x, Q0x, Qax, Qbx] at hb134
         refine dskipn 11 ha134 rfl rfl rfl rfl rfl (m129.to ⟨il, il, il, trivial⟩) ?_
         clear ha134 a133; intro a135 ha135
         refine dskipn 12 ha135 rfl rfl rfl rfl rfl (m129.to ⟨il, il, il, trivial⟩) ?_
         clear ha135 a135; intro a136 ha136
         refine dskipn 13 ha136 rfl rfl rfl rfl rfl (m129.to ⟨il, il, il, trivial⟩) ?_
         clear ha136 a136; intro a137 ha137
         refine dyn 14 ha137 rfl rfl (m129.to ⟨il, il, il, trivial⟩) (fun W => y_pickT ha137 rfl rfl) ?_
         clear ha137 a137; intro a138 ha138
         refine wpAnyE_done (by kernel_rfl) ?_ _
         refine hK8 _ _ ?_; clear hK8; try clear K8
         refine wp_cond_true (ha138.ev (x := .tmp 69) rfl) ?_
         refine wp_seq_k (fun K10 hK10 => ?_)
         have ha139 : Has 94 [(1, _), (2, _)] a138 := ha138.only [1, 2]; clear ha138
         refine wp_region_lit ?_
         refine st_y ha139 rfl (y_assign ha139 rfl) ?_
         clear ha139 a138; intro a140 ha140
         refine wpList_nil ?_
         refine hK10 _ _ ?_; clear hK10; try clear K10
         refine wp_ret ?_
         try dsimp only [Exit.then, Exit.inBlock]
         refine (ret1 (fn := Try.f19) ha140 rfl rfl ?_)
         exact ⟨false, rfl, iff_of_false (by simp) (fun h => by obtain ⟨v1, v2, v3, v4, v5, v6, v7, v8, v9⟩ := h; first | exact hN v1 | omega | (simp_all; done) | (simp_all; omega) | (have v10 := hpb.2 v8; simp_all; done) | (have v10 := v9 k hk; rw [getW hes] at v10; have v11 := hib.2 v10.2; simp_all; done) | (have v10 := v9 k hk; rw [getW hes] at v10; have v12 := v10.1; dsimp only at v12; omega)), m129.below⟩
        ·
         clear ha133
         try simp only [Q1x, Q2x, Q3x, Q4x, Q5x, Q6x, Q7x, Q8x, Q9x, Q0x, Qax, Qbx] at hb134
         refine dhg 11 ha134 rfl rfl rfl rfl rfl (m129.to ⟨il, il, il, trivial⟩) (fun W hW => y_loadBR ha134 hW (i := 20) rfl rfl Try.underlying34 rfl sz34rt (by simp) (by dsimp only [List.drop, List.take] <;> rfl)) ?_
         clear ha134 a133; intro a141 ha141
         refine stepE_only 12 rfl (by kernel_rfl) (wantedG ha141 rfl rfl rfl rfl) (fun K hK => ?_)
         refine e_call ha141 Try.func45 rfl rfl rfl rfl (pins_any _ _ _ _ _ _ _ _ place pins ws _ _ _ _ _ _ _ ((h1.now' m129 rfl).any) hp) ?_
         rintro e w142 ⟨pb, rfl, hpb, hb142⟩
         have m143 := m129.later hb142
         clear m129
         clear hb142
         refine ⟨_, rfl, fun a144 ha144 => ?_⟩; clear ha141 a141
         refine hK _ _ (m143.to ⟨il, il, il, trivial⟩) ?_; clear hK K
         refine dygn 13 ha144 rfl rfl rfl rfl rfl (m143.to ⟨il, il, il, trivial⟩) (fun W => y_not ha144 rfl) ?_
         clear ha144 a144; intro a145 ha145
         refine dyn 14 ha145 rfl rfl (m143.to ⟨il, il, il, trivial⟩) (fun W => y_pickF ha145 rfl rfl) ?_
         clear ha145 a145; intro a146 ha146
         refine wpAnyE_done (by kernel_rfl) ?_ _
         refine hK8 _ _ ?_; clear hK8; try clear K8
         refine bool_cases ha146 (t := 69) rfl (fun hb147 ha147 => ?_) (fun hb147 ha147 => ?_)
         ·
          clear ha146
          try simp only [Q1x, Q2x, Q3x, Q4x, Q5x, Q6x, Q7x, Q8x, Q9x, Q0x, Qax, Qbx] at hb147
          refine wp_cond_true (ha147.ev (x := .tmp 69) rfl) ?_
          refine wp_seq_k (fun K11 hK11 => ?_)
          have ha148 : Has 94 [(1, _), (2, _)] a146 := ha147.only [1, 2]; clear ha147
          refine wp_region_lit ?_
          refine st_y ha148 rfl (y_assign ha148 rfl) ?_
          clear ha148 a146; intro a149 ha149
          refine wpList_nil ?_
          refine hK11 _ _ ?_; clear hK11; try clear K11
          refine wp_ret ?_
          try dsimp only [Exit.then, Exit.inBlock]
          refine (ret1 (fn := Try.f19) ha149 rfl rfl ?_)
          exact ⟨false, rfl, iff_of_false (by simp) (fun h => by obtain ⟨v1, v2, v3, v4, v5, v6, v7, v8, v9⟩ := h; first | exact hN v1 | omega | (simp_all; done) | (simp_all; omega) | (have v10 := hpb.2 v8; simp_all; done) | (have v10 := v9 k hk; rw [getW hes] at v10; have v11 := hib.2 v10.2; simp_all; done) | (have v10 := v9 k hk; rw [getW hes] at v10; have v12 := v10.1; dsimp only at v12; omega)), m143.below⟩
         ·
          clear ha146
          try simp only [Q1x, Q2x, Q3x, Q4x, Q5x, Q6x, Q7x, Q8x, Q9x, Q0x, Qax, Qbx] at hb147
          refine wp_cond_false (ha147.ev (x := .tmp 69) rfl) ?_
          refine wp_skip ?_
          refine hK7 _ _ ?_; clear hK7; try clear K7
          refine wp_seq_k (fun K12 hK12 => ?_)
          refine wp_seq_k (fun K13 hK13 => ?_)
          have ha150 : Has 94 [(1, _), (2, _)] a146 := ha147.only [1, 2]; clear ha147
          refine wp_region_lit ?_
          refine st_y ha150 rfl (y_fieldAddr ha150 (off := 10) rfl Try.underlying34 rfl (s := 0) (by kernel_rfl) rfl) ?_
          clear ha150 a146; intro a151 ha151
          refine st_y ha151 rfl (y_loadB1 ha151 m143 (i := 20) rfl rfl rfl Try.underlying32 rfl) ?_
          clear ha151 a151; intro a152 ha152
          refine st_y ha152 rfl (y_len ha152 rfl Try.underlying32) ?_
          clear ha152 a152; intro a153 ha153
          refine st_y ha153 rfl (y_move ha153 rfl) ?_
          clear ha153 a153; intro a154 ha154
          refine wpList_nil ?_
          refine hK13 _ _ ?_; clear hK13; try clear K13
          refine wp_block ?_
          refine wp_loop_ghost (fun g a w => ∃ (k B : Nat), k ≤ ws.length ∧ g = ws.length - k ∧ WrPre bl sz ws k ∧ Has 94 [(1, .pointer (some ⟨B, 0, none⟩)), (71, .slice pw ws.length cw), (72, .int .i64 ws.length), (73, .int .i64 k)] a ∧ MemOk (cn w0) w0 [(9, .box B 34 [.int .i64 vo, .int .i64 bl, .int .i64 sz, .int .i64 pe, .slice pp place.length cp, .int .i64 to, .int .i64 ne, .bool hi, .int .i64 fl, .slice pn pins.length cn9, .slice pw ws.length cw])] w) (ws.length) ?_ ?_
          · exact ⟨0, _, Nat.zero_le _, rfl, (fun j hj => by omega), ha154.only [1, 71, 72, 73], m143.ren [(9, 20)] (by decide)⟩
          ·
           clear ha154 m143
           rintro g a155 w155 ⟨k, B, hkl, hg, hall, ha155, m155⟩
           refine wp_seq_k (fun K14 hK14 => ?_)
           refine wp_region_lit ?_
           refine st_y ha155 rfl (y_lss ha155 rfl rfl) ?_
           clear ha155 a155; intro a156 ha156
           refine wpList_nil ?_
           refine hK14 _ _ ?_; clear hK14; try clear K14
           refine wp_seq_k (fun K15 hK15 => ?_)
           refine bool_cases ha156 (t := 74) rfl (fun hb157 ha157 => ?_) (fun hb157 ha157 => ?_)
           ·
            clear ha156
            try simp only [Q1x, Q2x, Q3x, Q4x, Q5x, Q6x, Q7x, Q8x, Q9x, Q0x, Qax, Qbx] at hb157
            have hk : k < ws.length := by omega
            obtain ⟨⟨xs, xl⟩, hes⟩ : ∃ e, ws[k]? = some e := ⟨_, List.getElem?_eq_getElem hk⟩
            refine wp_cond_true (ha157.ev (x := .tmp 74) rfl) ?_
            refine wp_skip ?_
            refine hK15 _ _ ?_; clear hK15; try clear K15
            refine wp_seq_k (fun K16 hK16 => ?_)
            refine wp_block ?_
            refine wp_seq_k (fun K17 hK17 => ?_)
            refine wp_region_lit ?_
            refine st_y ha157 rfl (y_move ha157 rfl) ?_
            clear ha157 a156; intro a158 ha158
            obtain ⟨gx159, ox159, vx159, hp159, hl159, hR159, hrg159⟩ := h2.extA (k) (r := [.v (.int .i64 xs), .l 2 (xl.map itD)]) (wrD_get hes)
            cases hp159; clear hl159
            rcases hR159 with _ | ⟨hd159_0, _ | ⟨hd159_1, _ | _⟩⟩
            obtain rfl := hd159_0.v_out
            clear hd159_0
            obtain ⟨p160, c160, hv160, hw160⟩ := hd159_1.l_shape; subst hv160
            refine st_y ha158 rfl (y_idx ha158 rfl rfl Try.underlying32 sz55rt (k) rfl hk) ?_
            clear ha158 a158; intro a161 ha161
            refine st_y ha161 rfl (y_loadAt ha161 (hrg159 m155 rfl) rfl Try.underlying55 rfl sz55rt) ?_
            clear ha161 a161; intro a162 ha162
            refine wpList_plain rfl (fun K hK => ?_)
            refine e_alloc ha162 m155 101 zc55rt rfl ?_
            clear ha162 a162 m155; intro g163 a164 w164 ha164 m164 hB164 hg164
            clear hB164 hg164
            refine hK _ _ ?_; clear hK K
            refine st_y ha164 rfl (y_assign ha164 rfl) ?_
            clear ha164 a164; intro a165 ha165
            refine wpList_plain rfl (fun K hK => ?_)
            refine e_storeW ha165 m164 101 rfl rfl rfl rfl rfl sz55rt ?_
            clear m164; intro w166 m166 hB166
            clear hB166
            refine hK _ _ ?_; clear hK K
            refine wpList_nil ?_
            refine hK17 _ _ ?_; clear hK17; try clear K17
            refine wp_seq_k (fun K18 hK18 => ?_)
            refine wp_region_lit ?_
            refine st_y ha165 rfl (y_fieldAddr ha165 (off := 0) rfl Try.underlying55 rfl (s := 0) (by kernel_rfl) rfl) ?_
            clear ha165 a165; intro a167 ha167
            refine st_y ha167 rfl (y_loadB1 ha167 m166 (i := 101) rfl rfl rfl Try.underlying2 rfl) ?_
            clear ha167 a167; intro a168 ha168
            refine st_y ha168 rfl (y_move ha168 rfl) ?_
            clear ha168 a168; intro a169 ha169
            refine st_y ha169 rfl (y_add ha169 rfl rfl (r := ((k : Nat) : Int) + 1) (IntWalk.i64_in _ (by omega))) ?_
            clear ha169 a169; intro a170 ha170
            refine st_y ha170 rfl (y_neq ha170 rfl rfl) ?_
            clear ha170 a170; intro a171 ha171
            refine st_y ha171 rfl (y_move ha171 rfl) ?_
            clear ha171 a171; intro a172 ha172
            refine bool_cases ha172 (t := 83) rfl (fun hb173 ha173 => ?_) (fun hb173 ha173 => ?_)
            ·
             clear ha172
             try simp only [Q1x, Q2x, Q3x, Q4x, Q5x, Q6x, Q7x, Q8x, Q9x, Q0x, Qax, Qbx] at hb173
             refine st_skip ha173 rfl rfl rfl rfl ?_
             clear ha173 a172; intro a174 ha174
             refine st_skip ha174 rfl rfl rfl rfl ?_
             clear ha174 a174; intro a175 ha175
             refine st_skip ha175 rfl rfl rfl rfl ?_
             clear ha175 a175; intro a176 ha176
             refine st_skip ha176 rfl rfl rfl rfl ?_
             clear ha176 a176; intro a177 ha177
             refine st_skip ha177 rfl rfl rfl rfl ?_
             clear ha177 a177; intro a178 ha178
             refine st_skip ha178 rfl rfl rfl rfl ?_
             clear ha178 a178; intro a179 ha179
             refine st_skip ha179 rfl rfl rfl rfl ?_
             clear ha179 a179; intro a180 ha180
             refine st_skip ha180 rfl rfl rfl rfl ?_
             clear ha180 a180; intro a181 ha181
             refine st_y ha181 rfl (y_pickT ha181 rfl rfl) ?_
             clear ha181 a181; intro a182 ha182
             refine wpList_nil ?_
             refine hK18 _ _ ?_; clear hK18; try clear K18
             refine wp_cond_true (ha182.ev (x := .tmp 92) rfl) ?_
             refine wp_seq_k (fun K19 hK19 => ?_)
             have ha183 : Has 94 [(1, _), (71, _), (72, _), (73, _)] a182 := ha182.only [1, 71, 72, 73]; clear ha182
             refine wp_region_lit ?_
             refine st_y ha183 rfl (y_assign ha183 rfl) ?_
             clear ha183 a182; intro a184 ha184
             refine wpList_nil ?_
             refine hK19 _ _ ?_; clear hK19; try clear K19
             refine wp_ret ?_
             try dsimp only [Exit.then, Exit.inBlock]
             refine (ret1 (fn := Try.f19) ha184 rfl rfl ?_)
             exact ⟨false, rfl, iff_of_false (by simp) (fun h => by obtain ⟨v1, v2, v3, v4, v5, v6, v7, v8, v9⟩ := h; first | exact hN v1 | omega | (simp_all; done) | (simp_all; omega) | (have v10 := hpb.2 v8; simp_all; done) | (have v10 := v9 k hk; rw [getW hes] at v10; have v11 := hib.2 v10.2; simp_all; done) | (have v10 := v9 k hk; rw [getW hes] at v10; have v12 := v10.1; dsimp only at v12; omega)), m166.below⟩
            ·
             clear ha172
             try simp only [Q1x, Q2x, Q3x, Q4x, Q5x, Q6x, Q7x, Q8x, Q9x, Q0x, Qax, Qbx] at hb173
             refine st_g ha173 rfl rfl rfl rfl (y_fieldAddr ha173 (off := 1) rfl Try.underlying34 rfl (s := 0) (by kernel_rfl) rfl) ?_
             clear ha173 a172; intro a185 ha185
             refine st_g ha185 rfl rfl rfl rfl (y_loadB1 ha185 m166 (i := 9) rfl rfl rfl Try.underlying3 rfl) ?_
             clear ha185 a185; intro a186 ha186
             refine st_g ha186 rfl rfl rfl rfl (y_fieldAddr ha186 (off := 2) rfl Try.underlying34 rfl (s := 0) (by kernel_rfl) rfl) ?_
             clear ha186 a186; intro a187 ha187
             refine st_g ha187 rfl rfl rfl rfl (y_loadB1 ha187 m166 (i := 9) rfl rfl rfl Try.underlying3 rfl) ?_
             clear ha187 a187; intro a188 ha188
             refine st_g ha188 rfl rfl rfl rfl (y_fieldAddr ha188 (off := 1) rfl Try.underlying55 rfl (s := 0) (by kernel_rfl) rfl) ?_
             clear ha188 a188; intro a189 ha189
             refine st_g ha189 rfl rfl rfl rfl (y_loadB1 ha189 m166 (i := 101) rfl rfl rfl Try.underlying23 rfl) ?_
             clear ha189 a189; intro a190 ha190
             refine st_ge ha190 rfl rfl rfl rfl (fun K hK => ?_)
             refine e_call ha190 Try.func28 rfl rfl rfl rfl (vitems_nn _ _ xl _ _ _ _ ((hd159_1.now' m166 rfl).any) (hwl _ (List.mem_of_getElem? hes))) ?_
             rintro e w191 ⟨ib, rfl, hib, hb191⟩
             have m192 := m166.later hb191
             clear m166
             clear hb191
             refine ⟨_, rfl, fun a193 ha193 => ?_⟩; clear ha190 a190
             refine hK _ _ ?_; clear hK K
             refine st_g ha193 rfl rfl rfl rfl (y_not ha193 rfl) ?_
             clear ha193 a193; intro a194 ha194
             refine st_y ha194 rfl (y_pickF ha194 rfl rfl) ?_
             clear ha194 a194; intro a195 ha195
             refine wpList_nil ?_
             refine hK18 _ _ ?_; clear hK18; try clear K18
             refine bool_cases ha195 (t := 92) rfl (fun hb196 ha196 => ?_) (fun hb196 ha196 => ?_)
             ·
              clear ha195
              try simp only [Q1x, Q2x, Q3x, Q4x, Q5x, Q6x, Q7x, Q8x, Q9x, Q0x, Qax, Qbx] at hb196
              refine wp_cond_true (ha196.ev (x := .tmp 92) rfl) ?_
              refine wp_seq_k (fun K20 hK20 => ?_)
              have ha197 : Has 94 [(1, _), (71, _), (72, _), (73, _)] a195 := ha196.only [1, 71, 72, 73]; clear ha196
              refine wp_region_lit ?_
              refine st_y ha197 rfl (y_assign ha197 rfl) ?_
              clear ha197 a195; intro a198 ha198
              refine wpList_nil ?_
              refine hK20 _ _ ?_; clear hK20; try clear K20
              refine wp_ret ?_
              try dsimp only [Exit.then, Exit.inBlock]
              refine (ret1 (fn := Try.f19) ha198 rfl rfl ?_)
              exact ⟨false, rfl, iff_of_false (by simp) (fun h => by obtain ⟨v1, v2, v3, v4, v5, v6, v7, v8, v9⟩ := h; first | exact hN v1 | omega | (simp_all; done) | (simp_all; omega) | (have v10 := hpb.2 v8; simp_all; done) | (have v10 := v9 k hk; rw [getW hes] at v10; have v11 := hib.2 v10.2; simp_all; done) | (have v10 := v9 k hk; rw [getW hes] at v10; have v12 := v10.1; dsimp only at v12; omega)), m192.below⟩
             ·
              clear ha195
              try simp only [Q1x, Q2x, Q3x, Q4x, Q5x, Q6x, Q7x, Q8x, Q9x, Q0x, Qax, Qbx] at hb196
              refine wp_cond_false (ha196.ev (x := .tmp 92) rfl) ?_
              refine wp_skip ?_
              refine hK16 _ _ ?_; clear hK16; try clear K16
              have ha199 : Has 94 [(1, _), (71, _), (72, _), (73, _)] a195 := ha196.only [1, 71, 72, 73]; clear ha196
              refine wp_region_lit ?_
              refine st_y ha199 rfl (y_add ha199 rfl rfl (r := ((k + 1 : Nat) : Int)) (by rw [IntWalk.i64_in _ (by omega)]; omega)) ?_
              clear ha199 a195; intro a200 ha200
              refine st_y ha200 rfl (y_move ha200 rfl) ?_
              clear ha200 a200; intro a201 ha201
              refine wpList_nil ?_
              show ∃ n', n' < _ ∧ _
              exact ⟨ws.length - (k + 1), by omega, k + 1, _, by omega, rfl, wr_snoc hall hes (by omega) (hib.1 (by simp_all)), ha201.only [1, 71, 72, 73], m192.only [9]⟩
           ·
            clear ha156
            try simp only [Q1x, Q2x, Q3x, Q4x, Q5x, Q6x, Q7x, Q8x, Q9x, Q0x, Qax, Qbx] at hb157
            obtain rfl : k = ws.length := by omega
            refine wp_cond_false (ha157.ev (x := .tmp 74) rfl) ?_
            refine wp_exit ?_
            refine hK12 _ _ ?_; clear hK12; try clear K12
            refine wp_seq_k (fun K21 hK21 => ?_)
            refine wp_region_lit ?_
            refine st_y ha157 rfl (y_assign ha157 rfl) ?_
            clear ha157 a156; intro a202 ha202
            refine wpList_nil ?_
            refine hK21 _ _ ?_; clear hK21; try clear K21
            refine wp_ret ?_
            try dsimp only [Exit.then, Exit.inBlock]
            refine (ret1 (fn := Try.f19) ha202 rfl rfl ?_)
            exact ⟨true, rfl, iff_of_true rfl ⟨hN, by omega, by omega, by simp_all, by simp_all, by omega, by omega, hpb.1 (by simp_all), hall⟩, m155.below⟩
     ·
      clear ha92
      try simp only [Q1x, Q2x, Q3x, Q4x, Q5x, Q6x, Q7x, Q8x, Q9x, Q0x, Qax, Qbx] at hb93
      refine st_skip ha93 rfl rfl rfl rfl ?_
      clear ha93 a92; intro a203 ha203
      refine st_skip ha203 rfl rfl rfl rfl ?_
      clear ha203 a203; intro a204 ha204
      refine st_skip ha204 rfl rfl rfl rfl ?_
      clear ha204 a204; intro a205 ha205
      refine st_skip ha205 rfl rfl rfl rfl ?_
      clear ha205 a205; intro a206 ha206
      refine st_skip ha206 rfl rfl rfl rfl ?_
      clear ha206 a206; intro a207 ha207
      refine st_g ha207 rfl rfl rfl rfl (y_pickF ha207 rfl rfl) ?_
      clear ha207 a207; intro a208 ha208
      refine st_y ha208 rfl (y_pickF ha208 rfl rfl) ?_
      clear ha208 a208; intro a209 ha209
      refine wpList_nil ?_
      refine hK3 _ _ ?_; clear hK3; try clear K3
      refine wp_cond_false (ha209.ev (x := .tmp 54) rfl) ?_
      refine wp_skip ?_
      refine hK2 _ _ ?_; clear hK2; try clear K2
      refine wp_seq_k (fun K22 hK22 => ?_)
      refine wp_seq_k (fun K23 hK23 => ?_)
      have ha210 : Has 94 [(1, _), (2, _)] a209 := ha209.only [1, 2]; clear ha209
      have m211 : MemOk _ _ [(20, _), (21, _), (22, _)] _ := m37.only [20, 21, 22]; clear m37
      refine region_m 15 (B := [(20, _), (21, _), (22, _)]) (m211.to ⟨il, il, il, trivial⟩) m211 (by kernel_rfl) (fun w212 mB212 m212 => ?_); clear m211 mB212
      refine dyn 0 ha210 rfl rfl (m212.to ⟨il, il, il, trivial⟩) (fun W => y_fieldAddr ha210 (off := 8) rfl Try.underlying34 rfl (s := 0) (by kernel_rfl) rfl) ?_
      clear ha210 a209; intro a213 ha213
      refine dh 1 ha213 rfl rfl (m212.to ⟨il, il, il, trivial⟩) (fun W hW => y_loadB1 ha213 hW (i := 20) rfl rfl rfl Try.underlying2 rfl) ?_
      clear ha213 a213; intro a214 ha214
      refine dyn 2 ha214 rfl rfl (m212.to ⟨il, il, il, trivial⟩) (fun W => y_lss ha214 rfl rfl) ?_
      clear ha214 a214; intro a215 ha215
      refine dyn 3 ha215 rfl rfl (m212.to ⟨il, il, il, trivial⟩) (fun W => y_move ha215 rfl) ?_
      clear ha215 a215; intro a216 ha216
      refine bool_cases ha216 (t := 58) rfl (fun hb217 ha217 => ?_) (fun hb217 ha217 => ?_)
      ·
       clear ha216
       try simp only [Q1x, Q2x, Q3x, Q4x, Q5x, Q6x, Q7x, Q8x, Q9x, Q0x, Qax, Qbx] at hb217
       refine dskipn 4 ha217 rfl rfl rfl rfl rfl (m212.to ⟨il, il, il, trivial⟩) ?_
       clear ha217 a216; intro a218 ha218
       refine dskipn 5 ha218 rfl rfl rfl rfl rfl (m212.to ⟨il, il, il, trivial⟩) ?_
       clear ha218 a218; intro a219 ha219
       refine dskipn 6 ha219 rfl rfl rfl rfl rfl (m212.to ⟨il, il, il, trivial⟩) ?_
       clear ha219 a219; intro a220 ha220
       refine dskipn 7 ha220 rfl rfl rfl rfl rfl (m212.to ⟨il, il, il, trivial⟩) ?_
       clear ha220 a220; intro a221 ha221
       refine dskipn 8 ha221 rfl rfl rfl rfl rfl (m212.to ⟨il, il, il, trivial⟩) ?_
       clear ha221 a221; intro a222 ha222
       refine dyn 9 ha222 rfl rfl (m212.to ⟨il, il, il, trivial⟩) (fun W => y_pickT ha222 rfl rfl) ?_
       clear ha222 a222; intro a223 ha223
       refine dyn 10 ha223 rfl rfl (m212.to ⟨il, il, il, trivial⟩) (fun W => y_move ha223 rfl) ?_
       clear ha223 a223; intro a224 ha224
       refine dskipn 11 ha224 rfl rfl rfl rfl rfl (m212.to ⟨il, il, il, trivial⟩) ?_
       clear ha224 a224; intro a225 ha225
       refine dskipn 12 ha225 rfl rfl rfl rfl rfl (m212.to ⟨il, il, il, trivial⟩) ?_
       clear ha225 a225; intro a226 ha226
       refine dskipn 13 ha226 rfl rfl rfl rfl rfl (m212.to ⟨il, il, il, trivial⟩) ?_
       clear ha226 a226; intro a227 ha227
       refine dyn 14 ha227 rfl rfl (m212.to ⟨il, il, il, trivial⟩) (fun W => y_pickT ha227 rfl rfl) ?_
       clear ha227 a227; intro a228 ha228
       refine wpAnyE_done (by kernel_rfl) ?_ _
       refine hK23 _ _ ?_; clear hK23; try clear K23
       refine wp_cond_true (ha228.ev (x := .tmp 69) rfl) ?_
       refine wp_seq_k (fun K24 hK24 => ?_)
       have ha229 : Has 94 [(1, _), (2, _)] a228 := ha228.only [1, 2]; clear ha228
       refine wp_region_lit ?_
       refine st_y ha229 rfl (y_assign ha229 rfl) ?_
       clear ha229 a228; intro a230 ha230
       refine wpList_nil ?_
       refine hK24 _ _ ?_; clear hK24; try clear K24
       refine wp_ret ?_
       try dsimp only [Exit.then, Exit.inBlock]
       refine (ret1 (fn := Try.f19) ha230 rfl rfl ?_)
       exact ⟨false, rfl, iff_of_false (by simp) (fun h => by obtain ⟨v1, v2, v3, v4, v5, v6, v7, v8, v9⟩ := h; first | exact hN v1 | omega | (simp_all; done) | (simp_all; omega) | (have v10 := hpb.2 v8; simp_all; done) | (have v10 := v9 k hk; rw [getW hes] at v10; have v11 := hib.2 v10.2; simp_all; done) | (have v10 := v9 k hk; rw [getW hes] at v10; have v12 := v10.1; dsimp only at v12; omega)), m212.below⟩
      ·
       clear ha216
       try simp only [Q1x, Q2x, Q3x, Q4x, Q5x, Q6x, Q7x, Q8x, Q9x, Q0x, Qax, Qbx] at hb217
       refine dygn 4 ha217 rfl rfl rfl rfl rfl (m212.to ⟨il, il, il, trivial⟩) (fun W => y_fieldAddr ha217 (off := 8) rfl Try.underlying34 rfl (s := 0) (by kernel_rfl) rfl) ?_
       clear ha217 a216; intro a231 ha231
       refine dhg 5 ha231 rfl rfl rfl rfl rfl (m212.to ⟨il, il, il, trivial⟩) (fun W hW => y_loadB1 ha231 hW (i := 20) rfl rfl rfl Try.underlying2 rfl) ?_
       clear ha231 a231; intro a232 ha232
       refine dhg 6 ha232 rfl rfl rfl rfl rfl (m212.to ⟨il, il, il, trivial⟩) (fun W hW => y_loadBR ha232 hW (i := 20) rfl rfl Try.underlying34 rfl sz34rt (by simp) (by dsimp only [List.drop, List.take] <;> rfl)) ?_
       clear ha232 a232; intro a233 ha233
       refine stepE_only 7 rfl (by kernel_rfl) (wantedG ha233 rfl rfl rfl rfl) (fun K hK => ?_)
       refine e_call ha233 Try.func20 rfl rfl rfl rfl (vlen_any _ _ _ _ _ _ _ _ _ _ _ _ _ _ _ _ _ _) ?_
       rintro e w234 ⟨rfl, hb234⟩
       have m235 := m212.later hb234
       clear m212
       clear hb234
       refine ⟨_, rfl, fun a236 ha236 => ?_⟩; clear ha233 a233
       refine hK _ _ (m235.to ⟨il, il, il, trivial⟩) ?_; clear hK K
       refine dygn 8 ha236 rfl rfl rfl rfl rfl (m235.to ⟨il, il, il, trivial⟩) (fun W => y_gtr ha236 rfl rfl) ?_
       clear ha236 a236; intro a237 ha237
       refine dyn 9 ha237 rfl rfl (m235.to ⟨il, il, il, trivial⟩) (fun W => y_pickF ha237 rfl rfl) ?_
       clear ha237 a237; intro a238 ha238
       refine dyn 10 ha238 rfl rfl (m235.to ⟨il, il, il, trivial⟩) (fun W => y_move ha238 rfl) ?_
       clear ha238 a238; intro a239 ha239
       refine bool_cases ha239 (t := 65) rfl (fun hb240 ha240 => ?_) (fun hb240 ha240 => ?_)
       ·
        clear ha239
        try simp only [Q1x, Q2x, Q3x, Q4x, Q5x, Q6x, Q7x, Q8x, Q9x, Q0x, Qax, Qbx] at hb240
        refine dskipn 11 ha240 rfl rfl rfl rfl rfl (m235.to ⟨il, il, il, trivial⟩) ?_
        clear ha240 a239; intro a241 ha241
        refine dskipn 12 ha241 rfl rfl rfl rfl rfl (m235.to ⟨il, il, il, trivial⟩) ?_
        clear ha241 a241; intro a242 ha242
        refine dskipn 13 ha242 rfl rfl rfl rfl rfl (m235.to ⟨il, il, il, trivial⟩) ?_
        clear ha242 a242; intro a243 ha243
        refine dyn 14 ha243 rfl rfl (m235.to ⟨il, il, il, trivial⟩) (fun W => y_pickT ha243 rfl rfl) ?_
        clear ha243 a243; intro a244 ha244
        refine wpAnyE_done (by kernel_rfl) ?_ _
        refine hK23 _ _ ?_; clear hK23; try clear K23
        refine wp_cond_true (ha244.ev (x := .tmp 69) rfl) ?_
        refine wp_seq_k (fun K25 hK25 => ?_)
        have ha245 : Has 94 [(1, _), (2, _)] a244 := ha244.only [1, 2]; clear ha244
        refine wp_region_lit ?_
        refine st_y ha245 rfl (y_assign ha245 rfl) ?_
        clear ha245 a244; intro a246 ha246
        refine wpList_nil ?_
        refine hK25 _ _ ?_; clear hK25; try clear K25
        refine wp_ret ?_
        try dsimp only [Exit.then, Exit.inBlock]
        refine (ret1 (fn := Try.f19) ha246 rfl rfl ?_)
        exact ⟨false, rfl, iff_of_false (by simp) (fun h => by obtain ⟨v1, v2, v3, v4, v5, v6, v7, v8, v9⟩ := h; first | exact hN v1 | omega | (simp_all; done) | (simp_all; omega) | (have v10 := hpb.2 v8; simp_all; done) | (have v10 := v9 k hk; rw [getW hes] at v10; have v11 := hib.2 v10.2; simp_all; done) | (have v10 := v9 k hk; rw [getW hes] at v10; have v12 := v10.1; dsimp only at v12; omega)), m235.below⟩
       ·
        clear ha239
        try simp only [Q1x, Q2x, Q3x, Q4x, Q5x, Q6x, Q7x, Q8x, Q9x, Q0x, Qax, Qbx] at hb240
        refine dhg 11 ha240 rfl rfl rfl rfl rfl (m235.to ⟨il, il, il, trivial⟩) (fun W hW => y_loadBR ha240 hW (i := 20) rfl rfl Try.underlying34 rfl sz34rt (by simp) (by dsimp only [List.drop, List.take] <;> rfl)) ?_
        clear ha240 a239; intro a247 ha247
        refine stepE_only 12 rfl (by kernel_rfl) (wantedG ha247 rfl rfl rfl rfl) (fun K hK => ?_)
        refine e_call ha247 Try.func45 rfl rfl rfl rfl (pins_any _ _ _ _ _ _ _ _ place pins ws _ _ _ _ _ _ _ ((h1.now' m235 rfl).any) hp) ?_
        rintro e w248 ⟨pb, rfl, hpb, hb248⟩
        have m249 := m235.later hb248
        clear m235
        clear hb248
        refine ⟨_, rfl, fun a250 ha250 => ?_⟩; clear ha247 a247
        refine hK _ _ (m249.to ⟨il, il, il, trivial⟩) ?_; clear hK K
        refine dygn 13 ha250 rfl rfl rfl rfl rfl (m249.to ⟨il, il, il, trivial⟩) (fun W => y_not ha250 rfl) ?_
        clear ha250 a250; intro a251 ha251
        refine dyn 14 ha251 rfl rfl (m249.to ⟨il, il, il, trivial⟩) (fun W => y_pickF ha251 rfl rfl) ?_
        clear ha251 a251; intro a252 ha252
        refine wpAnyE_done (by kernel_rfl) ?_ _
        refine hK23 _ _ ?_; clear hK23; try clear K23
        refine bool_cases ha252 (t := 69) rfl (fun hb253 ha253 => ?_) (fun hb253 ha253 => ?_)
        ·
         clear ha252
         try simp only [Q1x, Q2x, Q3x, Q4x, Q5x, Q6x, Q7x, Q8x, Q9x, Q0x, Qax, Qbx] at hb253
         refine wp_cond_true (ha253.ev (x := .tmp 69) rfl) ?_
         refine wp_seq_k (fun K26 hK26 => ?_)
         have ha254 : Has 94 [(1, _), (2, _)] a252 := ha253.only [1, 2]; clear ha253
         refine wp_region_lit ?_
         refine st_y ha254 rfl (y_assign ha254 rfl) ?_
         clear ha254 a252; intro a255 ha255
         refine wpList_nil ?_
         refine hK26 _ _ ?_; clear hK26; try clear K26
         refine wp_ret ?_
         try dsimp only [Exit.then, Exit.inBlock]
         refine (ret1 (fn := Try.f19) ha255 rfl rfl ?_)
         exact ⟨false, rfl, iff_of_false (by simp) (fun h => by obtain ⟨v1, v2, v3, v4, v5, v6, v7, v8, v9⟩ := h; first | exact hN v1 | omega | (simp_all; done) | (simp_all; omega) | (have v10 := hpb.2 v8; simp_all; done) | (have v10 := v9 k hk; rw [getW hes] at v10; have v11 := hib.2 v10.2; simp_all; done) | (have v10 := v9 k hk; rw [getW hes] at v10; have v12 := v10.1; dsimp only at v12; omega)), m249.below⟩
        ·
         clear ha252
         try simp only [Q1x, Q2x, Q3x, Q4x, Q5x, Q6x, Q7x, Q8x, Q9x, Q0x, Qax, Qbx] at hb253
         refine wp_cond_false (ha253.ev (x := .tmp 69) rfl) ?_
         refine wp_skip ?_
         refine hK22 _ _ ?_; clear hK22; try clear K22
         refine wp_seq_k (fun K27 hK27 => ?_)
         refine wp_seq_k (fun K28 hK28 => ?_)
         have ha256 : Has 94 [(1, _), (2, _)] a252 := ha253.only [1, 2]; clear ha253
         refine wp_region_lit ?_
         refine st_y ha256 rfl (y_fieldAddr ha256 (off := 10) rfl Try.underlying34 rfl (s := 0) (by kernel_rfl) rfl) ?_
         clear ha256 a252; intro a257 ha257
         refine st_y ha257 rfl (y_loadB1 ha257 m249 (i := 20) rfl rfl rfl Try.underlying32 rfl) ?_
         clear ha257 a257; intro a258 ha258
         refine st_y ha258 rfl (y_len ha258 rfl Try.underlying32) ?_
         clear ha258 a258; intro a259 ha259
         refine st_y ha259 rfl (y_move ha259 rfl) ?_
         clear ha259 a259; intro a260 ha260
         refine wpList_nil ?_
         refine hK28 _ _ ?_; clear hK28; try clear K28
         refine wp_block ?_
         refine wp_loop_ghost (fun g a w => ∃ (k B : Nat), k ≤ ws.length ∧ g = ws.length - k ∧ WrPre bl sz ws k ∧ Has 94 [(1, .pointer (some ⟨B, 0, none⟩)), (71, .slice pw ws.length cw), (72, .int .i64 ws.length), (73, .int .i64 k)] a ∧ MemOk (cn w0) w0 [(9, .box B 34 [.int .i64 vo, .int .i64 bl, .int .i64 sz, .int .i64 pe, .slice pp place.length cp, .int .i64 to, .int .i64 ne, .bool hi, .int .i64 fl, .slice pn pins.length cn9, .slice pw ws.length cw])] w) (ws.length) ?_ ?_
         · exact ⟨0, _, Nat.zero_le _, rfl, (fun j hj => by omega), ha260.only [1, 71, 72, 73], m249.ren [(9, 20)] (by decide)⟩
         ·
          clear ha260 m249
          rintro g a261 w261 ⟨k, B, hkl, hg, hall, ha261, m261⟩
          refine wp_seq_k (fun K29 hK29 => ?_)
          refine wp_region_lit ?_
          refine st_y ha261 rfl (y_lss ha261 rfl rfl) ?_
          clear ha261 a261; intro a262 ha262
          refine wpList_nil ?_
          refine hK29 _ _ ?_; clear hK29; try clear K29
          refine wp_seq_k (fun K30 hK30 => ?_)
          refine bool_cases ha262 (t := 74) rfl (fun hb263 ha263 => ?_) (fun hb263 ha263 => ?_)
          ·
           clear ha262
           try simp only [Q1x, Q2x, Q3x, Q4x, Q5x, Q6x, Q7x, Q8x, Q9x, Q0x, Qax, Qbx] at hb263
           have hk : k < ws.length := by omega
           obtain ⟨⟨xs, xl⟩, hes⟩ : ∃ e, ws[k]? = some e := ⟨_, List.getElem?_eq_getElem hk⟩
           refine wp_cond_true (ha263.ev (x := .tmp 74) rfl) ?_
           refine wp_skip ?_
           refine hK30 _ _ ?_; clear hK30; try clear K30
           refine wp_seq_k (fun K31 hK31 => ?_)
           refine wp_block ?_
           refine wp_seq_k (fun K32 hK32 => ?_)
           refine wp_region_lit ?_
           refine st_y ha263 rfl (y_move ha263 rfl) ?_
           clear ha263 a262; intro a264 ha264
           obtain ⟨gx265, ox265, vx265, hp265, hl265, hR265, hrg265⟩ := h2.extA (k) (r := [.v (.int .i64 xs), .l 2 (xl.map itD)]) (wrD_get hes)
           cases hp265; clear hl265
           rcases hR265 with _ | ⟨hd265_0, _ | ⟨hd265_1, _ | _⟩⟩
           obtain rfl := hd265_0.v_out
           clear hd265_0
           obtain ⟨p266, c266, hv266, hw266⟩ := hd265_1.l_shape; subst hv266
           refine st_y ha264 rfl (y_idx ha264 rfl rfl Try.underlying32 sz55rt (k) rfl hk) ?_
           clear ha264 a264; intro a267 ha267
           refine st_y ha267 rfl (y_loadAt ha267 (hrg265 m261 rfl) rfl Try.underlying55 rfl sz55rt) ?_
           clear ha267 a267; intro a268 ha268
           refine wpList_plain rfl (fun K hK => ?_)
           refine e_alloc ha268 m261 101 zc55rt rfl ?_
           clear ha268 a268 m261; intro g269 a270 w270 ha270 m270 hB270 hg270
           clear hB270 hg270
           refine hK _ _ ?_; clear hK K
           refine st_y ha270 rfl (y_assign ha270 rfl) ?_
           clear ha270 a270; intro a271 ha271
           refine wpList_plain rfl (fun K hK => ?_)
           refine e_storeW ha271 m270 101 rfl rfl rfl rfl rfl sz55rt ?_
           clear m270; intro w272 m272 hB272
           clear hB272
           refine hK _ _ ?_; clear hK K
           refine wpList_nil ?_
           refine hK32 _ _ ?_; clear hK32; try clear K32
           refine wp_seq_k (fun K33 hK33 => ?_)
           refine wp_region_lit ?_
           refine st_y ha271 rfl (y_fieldAddr ha271 (off := 0) rfl Try.underlying55 rfl (s := 0) (by kernel_rfl) rfl) ?_
           clear ha271 a271; intro a273 ha273
           refine st_y ha273 rfl (y_loadB1 ha273 m272 (i := 101) rfl rfl rfl Try.underlying2 rfl) ?_
           clear ha273 a273; intro a274 ha274
           refine st_y ha274 rfl (y_move ha274 rfl) ?_
           clear ha274 a274; intro a275 ha275
           refine st_y ha275 rfl (y_add ha275 rfl rfl (r := ((k : Nat) : Int) + 1) (IntWalk.i64_in _ (by omega))) ?_
           clear ha275 a275; intro a276 ha276
           refine st_y ha276 rfl (y_neq ha276 rfl rfl) ?_
           clear ha276 a276; intro a277 ha277
           refine st_y ha277 rfl (y_move ha277 rfl) ?_
           clear ha277 a277; intro a278 ha278
           refine bool_cases ha278 (t := 83) rfl (fun hb279 ha279 => ?_) (fun hb279 ha279 => ?_)
           ·
            clear ha278
            try simp only [Q1x, Q2x, Q3x, Q4x, Q5x, Q6x, Q7x, Q8x, Q9x, Q0x, Qax, Qbx] at hb279
            refine st_skip ha279 rfl rfl rfl rfl ?_
            clear ha279 a278; intro a280 ha280
            refine st_skip ha280 rfl rfl rfl rfl ?_
            clear ha280 a280; intro a281 ha281
            refine st_skip ha281 rfl rfl rfl rfl ?_
            clear ha281 a281; intro a282 ha282
            refine st_skip ha282 rfl rfl rfl rfl ?_
            clear ha282 a282; intro a283 ha283
            refine st_skip ha283 rfl rfl rfl rfl ?_
            clear ha283 a283; intro a284 ha284
            refine st_skip ha284 rfl rfl rfl rfl ?_
            clear ha284 a284; intro a285 ha285
            refine st_skip ha285 rfl rfl rfl rfl ?_
            clear ha285 a285; intro a286 ha286
            refine st_skip ha286 rfl rfl rfl rfl ?_
            clear ha286 a286; intro a287 ha287
            refine st_y ha287 rfl (y_pickT ha287 rfl rfl) ?_
            clear ha287 a287; intro a288 ha288
            refine wpList_nil ?_
            refine hK33 _ _ ?_; clear hK33; try clear K33
            refine wp_cond_true (ha288.ev (x := .tmp 92) rfl) ?_
            refine wp_seq_k (fun K34 hK34 => ?_)
            have ha289 : Has 94 [(1, _), (71, _), (72, _), (73, _)] a288 := ha288.only [1, 71, 72, 73]; clear ha288
            refine wp_region_lit ?_
            refine st_y ha289 rfl (y_assign ha289 rfl) ?_
            clear ha289 a288; intro a290 ha290
            refine wpList_nil ?_
            refine hK34 _ _ ?_; clear hK34; try clear K34
            refine wp_ret ?_
            try dsimp only [Exit.then, Exit.inBlock]
            refine (ret1 (fn := Try.f19) ha290 rfl rfl ?_)
            exact ⟨false, rfl, iff_of_false (by simp) (fun h => by obtain ⟨v1, v2, v3, v4, v5, v6, v7, v8, v9⟩ := h; first | exact hN v1 | omega | (simp_all; done) | (simp_all; omega) | (have v10 := hpb.2 v8; simp_all; done) | (have v10 := v9 k hk; rw [getW hes] at v10; have v11 := hib.2 v10.2; simp_all; done) | (have v10 := v9 k hk; rw [getW hes] at v10; have v12 := v10.1; dsimp only at v12; omega)), m272.below⟩
           ·
            clear ha278
            try simp only [Q1x, Q2x, Q3x, Q4x, Q5x, Q6x, Q7x, Q8x, Q9x, Q0x, Qax, Qbx] at hb279
            refine st_g ha279 rfl rfl rfl rfl (y_fieldAddr ha279 (off := 1) rfl Try.underlying34 rfl (s := 0) (by kernel_rfl) rfl) ?_
            clear ha279 a278; intro a291 ha291
            refine st_g ha291 rfl rfl rfl rfl (y_loadB1 ha291 m272 (i := 9) rfl rfl rfl Try.underlying3 rfl) ?_
            clear ha291 a291; intro a292 ha292
            refine st_g ha292 rfl rfl rfl rfl (y_fieldAddr ha292 (off := 2) rfl Try.underlying34 rfl (s := 0) (by kernel_rfl) rfl) ?_
            clear ha292 a292; intro a293 ha293
            refine st_g ha293 rfl rfl rfl rfl (y_loadB1 ha293 m272 (i := 9) rfl rfl rfl Try.underlying3 rfl) ?_
            clear ha293 a293; intro a294 ha294
            refine st_g ha294 rfl rfl rfl rfl (y_fieldAddr ha294 (off := 1) rfl Try.underlying55 rfl (s := 0) (by kernel_rfl) rfl) ?_
            clear ha294 a294; intro a295 ha295
            refine st_g ha295 rfl rfl rfl rfl (y_loadB1 ha295 m272 (i := 101) rfl rfl rfl Try.underlying23 rfl) ?_
            clear ha295 a295; intro a296 ha296
            refine st_ge ha296 rfl rfl rfl rfl (fun K hK => ?_)
            refine e_call ha296 Try.func28 rfl rfl rfl rfl (vitems_nn _ _ xl _ _ _ _ ((hd265_1.now' m272 rfl).any) (hwl _ (List.mem_of_getElem? hes))) ?_
            rintro e w297 ⟨ib, rfl, hib, hb297⟩
            have m298 := m272.later hb297
            clear m272
            clear hb297
            refine ⟨_, rfl, fun a299 ha299 => ?_⟩; clear ha296 a296
            refine hK _ _ ?_; clear hK K
            refine st_g ha299 rfl rfl rfl rfl (y_not ha299 rfl) ?_
            clear ha299 a299; intro a300 ha300
            refine st_y ha300 rfl (y_pickF ha300 rfl rfl) ?_
            clear ha300 a300; intro a301 ha301
            refine wpList_nil ?_
            refine hK33 _ _ ?_; clear hK33; try clear K33
            refine bool_cases ha301 (t := 92) rfl (fun hb302 ha302 => ?_) (fun hb302 ha302 => ?_)
            ·
             clear ha301
             try simp only [Q1x, Q2x, Q3x, Q4x, Q5x, Q6x, Q7x, Q8x, Q9x, Q0x, Qax, Qbx] at hb302
             refine wp_cond_true (ha302.ev (x := .tmp 92) rfl) ?_
             refine wp_seq_k (fun K35 hK35 => ?_)
             have ha303 : Has 94 [(1, _), (71, _), (72, _), (73, _)] a301 := ha302.only [1, 71, 72, 73]; clear ha302
             refine wp_region_lit ?_
             refine st_y ha303 rfl (y_assign ha303 rfl) ?_
             clear ha303 a301; intro a304 ha304
             refine wpList_nil ?_
             refine hK35 _ _ ?_; clear hK35; try clear K35
             refine wp_ret ?_
             try dsimp only [Exit.then, Exit.inBlock]
             refine (ret1 (fn := Try.f19) ha304 rfl rfl ?_)
             exact ⟨false, rfl, iff_of_false (by simp) (fun h => by obtain ⟨v1, v2, v3, v4, v5, v6, v7, v8, v9⟩ := h; first | exact hN v1 | omega | (simp_all; done) | (simp_all; omega) | (have v10 := hpb.2 v8; simp_all; done) | (have v10 := v9 k hk; rw [getW hes] at v10; have v11 := hib.2 v10.2; simp_all; done) | (have v10 := v9 k hk; rw [getW hes] at v10; have v12 := v10.1; dsimp only at v12; omega)), m298.below⟩
            ·
             clear ha301
             try simp only [Q1x, Q2x, Q3x, Q4x, Q5x, Q6x, Q7x, Q8x, Q9x, Q0x, Qax, Qbx] at hb302
             refine wp_cond_false (ha302.ev (x := .tmp 92) rfl) ?_
             refine wp_skip ?_
             refine hK31 _ _ ?_; clear hK31; try clear K31
             have ha305 : Has 94 [(1, _), (71, _), (72, _), (73, _)] a301 := ha302.only [1, 71, 72, 73]; clear ha302
             refine wp_region_lit ?_
             refine st_y ha305 rfl (y_add ha305 rfl rfl (r := ((k + 1 : Nat) : Int)) (by rw [IntWalk.i64_in _ (by omega)]; omega)) ?_
             clear ha305 a301; intro a306 ha306
             refine st_y ha306 rfl (y_move ha306 rfl) ?_
             clear ha306 a306; intro a307 ha307
             refine wpList_nil ?_
             show ∃ n', n' < _ ∧ _
             exact ⟨ws.length - (k + 1), by omega, k + 1, _, by omega, rfl, wr_snoc hall hes (by omega) (hib.1 (by simp_all)), ha307.only [1, 71, 72, 73], m298.only [9]⟩
          ·
           clear ha262
           try simp only [Q1x, Q2x, Q3x, Q4x, Q5x, Q6x, Q7x, Q8x, Q9x, Q0x, Qax, Qbx] at hb263
           obtain rfl : k = ws.length := by omega
           refine wp_cond_false (ha263.ev (x := .tmp 74) rfl) ?_
           refine wp_exit ?_
           refine hK27 _ _ ?_; clear hK27; try clear K27
           refine wp_seq_k (fun K36 hK36 => ?_)
           refine wp_region_lit ?_
           refine st_y ha263 rfl (y_assign ha263 rfl) ?_
           clear ha263 a262; intro a308 ha308
           refine wpList_nil ?_
           refine hK36 _ _ ?_; clear hK36; try clear K36
           refine wp_ret ?_
           try dsimp only [Exit.then, Exit.inBlock]
           refine (ret1 (fn := Try.f19) ha308 rfl rfl ?_)
           exact ⟨true, rfl, iff_of_true rfl ⟨hN, by omega, by omega, by simp_all, by simp_all, by omega, by omega, hpb.1 (by simp_all), hall⟩, m261.below⟩
   ·
    clear ha67
    try simp only [Q1x, Q2x, Q3x, Q4x, Q5x, Q6x, Q7x, Q8x, Q9x, Q0x, Qax, Qbx] at hb68
    refine st_skip ha68 rfl rfl rfl rfl ?_
    clear ha68 a67; intro a309 ha309
    refine st_skip ha309 rfl rfl rfl rfl ?_
    clear ha309 a309; intro a310 ha310
    refine st_skip ha310 rfl rfl rfl rfl ?_
    clear ha310 a310; intro a311 ha311
    refine st_g ha311 rfl rfl rfl rfl (y_pickF ha311 rfl rfl) ?_
    clear ha311 a311; intro a312 ha312
    refine st_y ha312 rfl (y_pickF ha312 rfl rfl) ?_
    clear ha312 a312; intro a313 ha313
    refine st_y ha313 rfl (y_move ha313 rfl) ?_
    clear ha313 a313; intro a314 ha314
    refine st_g ha314 rfl rfl rfl rfl (y_fieldAddr ha314 (off := 7) rfl Try.underlying34 rfl (s := 0) (by kernel_rfl) rfl) ?_
    clear ha314 a314; intro a315 ha315
    refine st_g ha315 rfl rfl rfl rfl (y_loadB1 ha315 m37 (i := 20) rfl rfl rfl Try.underlying4 rfl) ?_
    clear ha315 a315; intro a316 ha316
    refine st_g ha316 rfl rfl rfl rfl (y_not ha316 rfl) ?_
    clear ha316 a316; intro a317 ha317
    refine st_g ha317 rfl rfl rfl rfl (y_move ha317 rfl) ?_
    clear ha317 a317; intro a318 ha318
    refine bool_cases ha318 (t := 47) rfl (fun hb319 ha319 => ?_) (fun hb319 ha319 => ?_)
    ·
     clear ha318
     try simp only [Q1x, Q2x, Q3x, Q4x, Q5x, Q6x, Q7x, Q8x, Q9x, Q0x, Qax, Qbx] at hb319
     refine st_g ha319 rfl rfl rfl rfl (y_fieldAddr ha319 (off := 6) rfl Try.underlying34 rfl (s := 0) (by kernel_rfl) rfl) ?_
     clear ha319 a318; intro a320 ha320
     refine st_g ha320 rfl rfl rfl rfl (y_loadB1 ha320 m37 (i := 20) rfl rfl rfl Try.underlying3 rfl) ?_
     clear ha320 a320; intro a321 ha321
     refine st_g ha321 rfl rfl rfl rfl (y_fieldAddr ha321 (off := 5) rfl Try.underlying34 rfl (s := 0) (by kernel_rfl) rfl) ?_
     clear ha321 a321; intro a322 ha322
     refine st_g ha322 rfl rfl rfl rfl (y_loadB1 ha322 m37 (i := 20) rfl rfl rfl Try.underlying3 rfl) ?_
     clear ha322 a322; intro a323 ha323
     refine st_g ha323 rfl rfl rfl rfl (y_neq ha323 rfl rfl) ?_
     clear ha323 a323; intro a324 ha324
     refine st_g ha324 rfl rfl rfl rfl (y_pickT ha324 rfl rfl) ?_
     clear ha324 a324; intro a325 ha325
     refine st_y ha325 rfl (y_pickF ha325 rfl rfl) ?_
     clear ha325 a325; intro a326 ha326
     refine wpList_nil ?_
     refine hK3 _ _ ?_; clear hK3; try clear K3
     refine bool_cases ha326 (t := 54) rfl (fun hb327 ha327 => ?_) (fun hb327 ha327 => ?_)
     ·
      clear ha326
      try simp only [Q1x, Q2x, Q3x, Q4x, Q5x, Q6x, Q7x, Q8x, Q9x, Q0x, Qax, Qbx] at hb327
      refine wp_cond_true (ha327.ev (x := .tmp 54) rfl) ?_
      refine wp_seq_k (fun K37 hK37 => ?_)
      have ha328 : Has 94 [(1, _), (2, _)] a326 := ha327.only [1, 2]; clear ha327
      refine wp_region_lit ?_
      refine st_y ha328 rfl (y_assign ha328 rfl) ?_
      clear ha328 a326; intro a329 ha329
      refine wpList_nil ?_
      refine hK37 _ _ ?_; clear hK37; try clear K37
      refine wp_ret ?_
      try dsimp only [Exit.then, Exit.inBlock]
      refine (ret1 (fn := Try.f19) ha329 rfl rfl ?_)
      exact ⟨false, rfl, iff_of_false (by simp) (fun h => by obtain ⟨v1, v2, v3, v4, v5, v6, v7, v8, v9⟩ := h; first | exact hN v1 | omega | (simp_all; done) | (simp_all; omega) | (have v10 := hpb.2 v8; simp_all; done) | (have v10 := v9 k hk; rw [getW hes] at v10; have v11 := hib.2 v10.2; simp_all; done) | (have v10 := v9 k hk; rw [getW hes] at v10; have v12 := v10.1; dsimp only at v12; omega)), m37.below⟩
     ·
      clear ha326
      try simp only [Q1x, Q2x, Q3x, Q4x, Q5x, Q6x, Q7x, Q8x, Q9x, Q0x, Qax, Qbx] at hb327
      refine wp_cond_false (ha327.ev (x := .tmp 54) rfl) ?_
      refine wp_skip ?_
      refine hK2 _ _ ?_; clear hK2; try clear K2
      refine wp_seq_k (fun K38 hK38 => ?_)
      refine wp_seq_k (fun K39 hK39 => ?_)
      have ha330 : Has 94 [(1, _), (2, _)] a326 := ha327.only [1, 2]; clear ha327
      have m331 : MemOk _ _ [(20, _), (21, _), (22, _)] _ := m37.only [20, 21, 22]; clear m37
      refine region_m 15 (B := [(20, _), (21, _), (22, _)]) (m331.to ⟨il, il, il, trivial⟩) m331 (by kernel_rfl) (fun w332 mB332 m332 => ?_); clear m331 mB332
      refine dyn 0 ha330 rfl rfl (m332.to ⟨il, il, il, trivial⟩) (fun W => y_fieldAddr ha330 (off := 8) rfl Try.underlying34 rfl (s := 0) (by kernel_rfl) rfl) ?_
      clear ha330 a326; intro a333 ha333
      refine dh 1 ha333 rfl rfl (m332.to ⟨il, il, il, trivial⟩) (fun W hW => y_loadB1 ha333 hW (i := 20) rfl rfl rfl Try.underlying2 rfl) ?_
      clear ha333 a333; intro a334 ha334
      refine dyn 2 ha334 rfl rfl (m332.to ⟨il, il, il, trivial⟩) (fun W => y_lss ha334 rfl rfl) ?_
      clear ha334 a334; intro a335 ha335
      refine dyn 3 ha335 rfl rfl (m332.to ⟨il, il, il, trivial⟩) (fun W => y_move ha335 rfl) ?_
      clear ha335 a335; intro a336 ha336
      refine bool_cases ha336 (t := 58) rfl (fun hb337 ha337 => ?_) (fun hb337 ha337 => ?_)
      ·
       clear ha336
       try simp only [Q1x, Q2x, Q3x, Q4x, Q5x, Q6x, Q7x, Q8x, Q9x, Q0x, Qax, Qbx] at hb337
       refine dskipn 4 ha337 rfl rfl rfl rfl rfl (m332.to ⟨il, il, il, trivial⟩) ?_
       clear ha337 a336; intro a338 ha338
       refine dskipn 5 ha338 rfl rfl rfl rfl rfl (m332.to ⟨il, il, il, trivial⟩) ?_
       clear ha338 a338; intro a339 ha339
       refine dskipn 6 ha339 rfl rfl rfl rfl rfl (m332.to ⟨il, il, il, trivial⟩) ?_
       clear ha339 a339; intro a340 ha340
       refine dskipn 7 ha340 rfl rfl rfl rfl rfl (m332.to ⟨il, il, il, trivial⟩) ?_
       clear ha340 a340; intro a341 ha341
       refine dskipn 8 ha341 rfl rfl rfl rfl rfl (m332.to ⟨il, il, il, trivial⟩) ?_
       clear ha341 a341; intro a342 ha342
       refine dyn 9 ha342 rfl rfl (m332.to ⟨il, il, il, trivial⟩) (fun W => y_pickT ha342 rfl rfl) ?_
       clear ha342 a342; intro a343 ha343
       refine dyn 10 ha343 rfl rfl (m332.to ⟨il, il, il, trivial⟩) (fun W => y_move ha343 rfl) ?_
       clear ha343 a343; intro a344 ha344
       refine dskipn 11 ha344 rfl rfl rfl rfl rfl (m332.to ⟨il, il, il, trivial⟩) ?_
       clear ha344 a344; intro a345 ha345
       refine dskipn 12 ha345 rfl rfl rfl rfl rfl (m332.to ⟨il, il, il, trivial⟩) ?_
       clear ha345 a345; intro a346 ha346
       refine dskipn 13 ha346 rfl rfl rfl rfl rfl (m332.to ⟨il, il, il, trivial⟩) ?_
       clear ha346 a346; intro a347 ha347
       refine dyn 14 ha347 rfl rfl (m332.to ⟨il, il, il, trivial⟩) (fun W => y_pickT ha347 rfl rfl) ?_
       clear ha347 a347; intro a348 ha348
       refine wpAnyE_done (by kernel_rfl) ?_ _
       refine hK39 _ _ ?_; clear hK39; try clear K39
       refine wp_cond_true (ha348.ev (x := .tmp 69) rfl) ?_
       refine wp_seq_k (fun K40 hK40 => ?_)
       have ha349 : Has 94 [(1, _), (2, _)] a348 := ha348.only [1, 2]; clear ha348
       refine wp_region_lit ?_
       refine st_y ha349 rfl (y_assign ha349 rfl) ?_
       clear ha349 a348; intro a350 ha350
       refine wpList_nil ?_
       refine hK40 _ _ ?_; clear hK40; try clear K40
       refine wp_ret ?_
       try dsimp only [Exit.then, Exit.inBlock]
       refine (ret1 (fn := Try.f19) ha350 rfl rfl ?_)
       exact ⟨false, rfl, iff_of_false (by simp) (fun h => by obtain ⟨v1, v2, v3, v4, v5, v6, v7, v8, v9⟩ := h; first | exact hN v1 | omega | (simp_all; done) | (simp_all; omega) | (have v10 := hpb.2 v8; simp_all; done) | (have v10 := v9 k hk; rw [getW hes] at v10; have v11 := hib.2 v10.2; simp_all; done) | (have v10 := v9 k hk; rw [getW hes] at v10; have v12 := v10.1; dsimp only at v12; omega)), m332.below⟩
      ·
       clear ha336
       try simp only [Q1x, Q2x, Q3x, Q4x, Q5x, Q6x, Q7x, Q8x, Q9x, Q0x, Qax, Qbx] at hb337
       refine dygn 4 ha337 rfl rfl rfl rfl rfl (m332.to ⟨il, il, il, trivial⟩) (fun W => y_fieldAddr ha337 (off := 8) rfl Try.underlying34 rfl (s := 0) (by kernel_rfl) rfl) ?_
       clear ha337 a336; intro a351 ha351
       refine dhg 5 ha351 rfl rfl rfl rfl rfl (m332.to ⟨il, il, il, trivial⟩) (fun W hW => y_loadB1 ha351 hW (i := 20) rfl rfl rfl Try.underlying2 rfl) ?_
       clear ha351 a351; intro a352 ha352
       refine dhg 6 ha352 rfl rfl rfl rfl rfl (m332.to ⟨il, il, il, trivial⟩) (fun W hW => y_loadBR ha352 hW (i := 20) rfl rfl Try.underlying34 rfl sz34rt (by simp) (by dsimp only [List.drop, List.take] <;> rfl)) ?_
       clear ha352 a352; intro a353 ha353
       refine stepE_only 7 rfl (by kernel_rfl) (wantedG ha353 rfl rfl rfl rfl) (fun K hK => ?_)
       refine e_call ha353 Try.func20 rfl rfl rfl rfl (vlen_any _ _ _ _ _ _ _ _ _ _ _ _ _ _ _ _ _ _) ?_
       rintro e w354 ⟨rfl, hb354⟩
       have m355 := m332.later hb354
       clear m332
       clear hb354
       refine ⟨_, rfl, fun a356 ha356 => ?_⟩; clear ha353 a353
       refine hK _ _ (m355.to ⟨il, il, il, trivial⟩) ?_; clear hK K
       refine dygn 8 ha356 rfl rfl rfl rfl rfl (m355.to ⟨il, il, il, trivial⟩) (fun W => y_gtr ha356 rfl rfl) ?_
       clear ha356 a356; intro a357 ha357
       refine dyn 9 ha357 rfl rfl (m355.to ⟨il, il, il, trivial⟩) (fun W => y_pickF ha357 rfl rfl) ?_
       clear ha357 a357; intro a358 ha358
       refine dyn 10 ha358 rfl rfl (m355.to ⟨il, il, il, trivial⟩) (fun W => y_move ha358 rfl) ?_
       clear ha358 a358; intro a359 ha359
       refine bool_cases ha359 (t := 65) rfl (fun hb360 ha360 => ?_) (fun hb360 ha360 => ?_)
       ·
        clear ha359
        try simp only [Q1x, Q2x, Q3x, Q4x, Q5x, Q6x, Q7x, Q8x, Q9x, Q0x, Qax, Qbx] at hb360
        refine dskipn 11 ha360 rfl rfl rfl rfl rfl (m355.to ⟨il, il, il, trivial⟩) ?_
        clear ha360 a359; intro a361 ha361
        refine dskipn 12 ha361 rfl rfl rfl rfl rfl (m355.to ⟨il, il, il, trivial⟩) ?_
        clear ha361 a361; intro a362 ha362
        refine dskipn 13 ha362 rfl rfl rfl rfl rfl (m355.to ⟨il, il, il, trivial⟩) ?_
        clear ha362 a362; intro a363 ha363
        refine dyn 14 ha363 rfl rfl (m355.to ⟨il, il, il, trivial⟩) (fun W => y_pickT ha363 rfl rfl) ?_
        clear ha363 a363; intro a364 ha364
        refine wpAnyE_done (by kernel_rfl) ?_ _
        refine hK39 _ _ ?_; clear hK39; try clear K39
        refine wp_cond_true (ha364.ev (x := .tmp 69) rfl) ?_
        refine wp_seq_k (fun K41 hK41 => ?_)
        have ha365 : Has 94 [(1, _), (2, _)] a364 := ha364.only [1, 2]; clear ha364
        refine wp_region_lit ?_
        refine st_y ha365 rfl (y_assign ha365 rfl) ?_
        clear ha365 a364; intro a366 ha366
        refine wpList_nil ?_
        refine hK41 _ _ ?_; clear hK41; try clear K41
        refine wp_ret ?_
        try dsimp only [Exit.then, Exit.inBlock]
        refine (ret1 (fn := Try.f19) ha366 rfl rfl ?_)
        exact ⟨false, rfl, iff_of_false (by simp) (fun h => by obtain ⟨v1, v2, v3, v4, v5, v6, v7, v8, v9⟩ := h; first | exact hN v1 | omega | (simp_all; done) | (simp_all; omega) | (have v10 := hpb.2 v8; simp_all; done) | (have v10 := v9 k hk; rw [getW hes] at v10; have v11 := hib.2 v10.2; simp_all; done) | (have v10 := v9 k hk; rw [getW hes] at v10; have v12 := v10.1; dsimp only at v12; omega)), m355.below⟩
       ·
        clear ha359
        try simp only [Q1x, Q2x, Q3x, Q4x, Q5x, Q6x, Q7x, Q8x, Q9x, Q0x, Qax, Qbx] at hb360
        refine dhg 11 ha360 rfl rfl rfl rfl rfl (m355.to ⟨il, il, il, trivial⟩) (fun W hW => y_loadBR ha360 hW (i := 20) rfl rfl Try.underlying34 rfl sz34rt (by simp) (by dsimp only [List.drop, List.take] <;> rfl)) ?_
        clear ha360 a359; intro a367 ha367
        refine stepE_only 12 rfl (by kernel_rfl) (wantedG ha367 rfl rfl rfl rfl) (fun K hK => ?_)
        refine e_call ha367 Try.func45 rfl rfl rfl rfl (pins_any _ _ _ _ _ _ _ _ place pins ws _ _ _ _ _ _ _ ((h1.now' m355 rfl).any) hp) ?_
        rintro e w368 ⟨pb, rfl, hpb, hb368⟩
        have m369 := m355.later hb368
        clear m355
        clear hb368
        refine ⟨_, rfl, fun a370 ha370 => ?_⟩; clear ha367 a367
        refine hK _ _ (m369.to ⟨il, il, il, trivial⟩) ?_; clear hK K
        refine dygn 13 ha370 rfl rfl rfl rfl rfl (m369.to ⟨il, il, il, trivial⟩) (fun W => y_not ha370 rfl) ?_
        clear ha370 a370; intro a371 ha371
        refine dyn 14 ha371 rfl rfl (m369.to ⟨il, il, il, trivial⟩) (fun W => y_pickF ha371 rfl rfl) ?_
        clear ha371 a371; intro a372 ha372
        refine wpAnyE_done (by kernel_rfl) ?_ _
        refine hK39 _ _ ?_; clear hK39; try clear K39
        refine bool_cases ha372 (t := 69) rfl (fun hb373 ha373 => ?_) (fun hb373 ha373 => ?_)
        ·
         clear ha372
         try simp only [Q1x, Q2x, Q3x, Q4x, Q5x, Q6x, Q7x, Q8x, Q9x, Q0x, Qax, Qbx] at hb373
         refine wp_cond_true (ha373.ev (x := .tmp 69) rfl) ?_
         refine wp_seq_k (fun K42 hK42 => ?_)
         have ha374 : Has 94 [(1, _), (2, _)] a372 := ha373.only [1, 2]; clear ha373
         refine wp_region_lit ?_
         refine st_y ha374 rfl (y_assign ha374 rfl) ?_
         clear ha374 a372; intro a375 ha375
         refine wpList_nil ?_
         refine hK42 _ _ ?_; clear hK42; try clear K42
         refine wp_ret ?_
         try dsimp only [Exit.then, Exit.inBlock]
         refine (ret1 (fn := Try.f19) ha375 rfl rfl ?_)
         exact ⟨false, rfl, iff_of_false (by simp) (fun h => by obtain ⟨v1, v2, v3, v4, v5, v6, v7, v8, v9⟩ := h; first | exact hN v1 | omega | (simp_all; done) | (simp_all; omega) | (have v10 := hpb.2 v8; simp_all; done) | (have v10 := v9 k hk; rw [getW hes] at v10; have v11 := hib.2 v10.2; simp_all; done) | (have v10 := v9 k hk; rw [getW hes] at v10; have v12 := v10.1; dsimp only at v12; omega)), m369.below⟩
        ·
         clear ha372
         try simp only [Q1x, Q2x, Q3x, Q4x, Q5x, Q6x, Q7x, Q8x, Q9x, Q0x, Qax, Qbx] at hb373
         refine wp_cond_false (ha373.ev (x := .tmp 69) rfl) ?_
         refine wp_skip ?_
         refine hK38 _ _ ?_; clear hK38; try clear K38
         refine wp_seq_k (fun K43 hK43 => ?_)
         refine wp_seq_k (fun K44 hK44 => ?_)
         have ha376 : Has 94 [(1, _), (2, _)] a372 := ha373.only [1, 2]; clear ha373
         refine wp_region_lit ?_
         refine st_y ha376 rfl (y_fieldAddr ha376 (off := 10) rfl Try.underlying34 rfl (s := 0) (by kernel_rfl) rfl) ?_
         clear ha376 a372; intro a377 ha377
         refine st_y ha377 rfl (y_loadB1 ha377 m369 (i := 20) rfl rfl rfl Try.underlying32 rfl) ?_
         clear ha377 a377; intro a378 ha378
         refine st_y ha378 rfl (y_len ha378 rfl Try.underlying32) ?_
         clear ha378 a378; intro a379 ha379
         refine st_y ha379 rfl (y_move ha379 rfl) ?_
         clear ha379 a379; intro a380 ha380
         refine wpList_nil ?_
         refine hK44 _ _ ?_; clear hK44; try clear K44
         refine wp_block ?_
         refine wp_loop_ghost (fun g a w => ∃ (k B : Nat), k ≤ ws.length ∧ g = ws.length - k ∧ WrPre bl sz ws k ∧ Has 94 [(1, .pointer (some ⟨B, 0, none⟩)), (71, .slice pw ws.length cw), (72, .int .i64 ws.length), (73, .int .i64 k)] a ∧ MemOk (cn w0) w0 [(9, .box B 34 [.int .i64 vo, .int .i64 bl, .int .i64 sz, .int .i64 pe, .slice pp place.length cp, .int .i64 to, .int .i64 ne, .bool hi, .int .i64 fl, .slice pn pins.length cn9, .slice pw ws.length cw])] w) (ws.length) ?_ ?_
         · exact ⟨0, _, Nat.zero_le _, rfl, (fun j hj => by omega), ha380.only [1, 71, 72, 73], m369.ren [(9, 20)] (by decide)⟩
         ·
          clear ha380 m369
          rintro g a381 w381 ⟨k, B, hkl, hg, hall, ha381, m381⟩
          refine wp_seq_k (fun K45 hK45 => ?_)
          refine wp_region_lit ?_
          refine st_y ha381 rfl (y_lss ha381 rfl rfl) ?_
          clear ha381 a381; intro a382 ha382
          refine wpList_nil ?_
          refine hK45 _ _ ?_; clear hK45; try clear K45
          refine wp_seq_k (fun K46 hK46 => ?_)
          refine bool_cases ha382 (t := 74) rfl (fun hb383 ha383 => ?_) (fun hb383 ha383 => ?_)
          ·
           clear ha382
           try simp only [Q1x, Q2x, Q3x, Q4x, Q5x, Q6x, Q7x, Q8x, Q9x, Q0x, Qax, Qbx] at hb383
           have hk : k < ws.length := by omega
           obtain ⟨⟨xs, xl⟩, hes⟩ : ∃ e, ws[k]? = some e := ⟨_, List.getElem?_eq_getElem hk⟩
           refine wp_cond_true (ha383.ev (x := .tmp 74) rfl) ?_
           refine wp_skip ?_
           refine hK46 _ _ ?_; clear hK46; try clear K46
           refine wp_seq_k (fun K47 hK47 => ?_)
           refine wp_block ?_
           refine wp_seq_k (fun K48 hK48 => ?_)
           refine wp_region_lit ?_
           refine st_y ha383 rfl (y_move ha383 rfl) ?_
           clear ha383 a382; intro a384 ha384
           obtain ⟨gx385, ox385, vx385, hp385, hl385, hR385, hrg385⟩ := h2.extA (k) (r := [.v (.int .i64 xs), .l 2 (xl.map itD)]) (wrD_get hes)
           cases hp385; clear hl385
           rcases hR385 with _ | ⟨hd385_0, _ | ⟨hd385_1, _ | _⟩⟩
           obtain rfl := hd385_0.v_out
           clear hd385_0
           obtain ⟨p386, c386, hv386, hw386⟩ := hd385_1.l_shape; subst hv386
           refine st_y ha384 rfl (y_idx ha384 rfl rfl Try.underlying32 sz55rt (k) rfl hk) ?_
           clear ha384 a384; intro a387 ha387
           refine st_y ha387 rfl (y_loadAt ha387 (hrg385 m381 rfl) rfl Try.underlying55 rfl sz55rt) ?_
           clear ha387 a387; intro a388 ha388
           refine wpList_plain rfl (fun K hK => ?_)
           refine e_alloc ha388 m381 101 zc55rt rfl ?_
           clear ha388 a388 m381; intro g389 a390 w390 ha390 m390 hB390 hg390
           clear hB390 hg390
           refine hK _ _ ?_; clear hK K
           refine st_y ha390 rfl (y_assign ha390 rfl) ?_
           clear ha390 a390; intro a391 ha391
           refine wpList_plain rfl (fun K hK => ?_)
           refine e_storeW ha391 m390 101 rfl rfl rfl rfl rfl sz55rt ?_
           clear m390; intro w392 m392 hB392
           clear hB392
           refine hK _ _ ?_; clear hK K
           refine wpList_nil ?_
           refine hK48 _ _ ?_; clear hK48; try clear K48
           refine wp_seq_k (fun K49 hK49 => ?_)
           refine wp_region_lit ?_
           refine st_y ha391 rfl (y_fieldAddr ha391 (off := 0) rfl Try.underlying55 rfl (s := 0) (by kernel_rfl) rfl) ?_
           clear ha391 a391; intro a393 ha393
           refine st_y ha393 rfl (y_loadB1 ha393 m392 (i := 101) rfl rfl rfl Try.underlying2 rfl) ?_
           clear ha393 a393; intro a394 ha394
           refine st_y ha394 rfl (y_move ha394 rfl) ?_
           clear ha394 a394; intro a395 ha395
           refine st_y ha395 rfl (y_add ha395 rfl rfl (r := ((k : Nat) : Int) + 1) (IntWalk.i64_in _ (by omega))) ?_
           clear ha395 a395; intro a396 ha396
           refine st_y ha396 rfl (y_neq ha396 rfl rfl) ?_
           clear ha396 a396; intro a397 ha397
           refine st_y ha397 rfl (y_move ha397 rfl) ?_
           clear ha397 a397; intro a398 ha398
           refine bool_cases ha398 (t := 83) rfl (fun hb399 ha399 => ?_) (fun hb399 ha399 => ?_)
           ·
            clear ha398
            try simp only [Q1x, Q2x, Q3x, Q4x, Q5x, Q6x, Q7x, Q8x, Q9x, Q0x, Qax, Qbx] at hb399
            refine st_skip ha399 rfl rfl rfl rfl ?_
            clear ha399 a398; intro a400 ha400
            refine st_skip ha400 rfl rfl rfl rfl ?_
            clear ha400 a400; intro a401 ha401
            refine st_skip ha401 rfl rfl rfl rfl ?_
            clear ha401 a401; intro a402 ha402
            refine st_skip ha402 rfl rfl rfl rfl ?_
            clear ha402 a402; intro a403 ha403
            refine st_skip ha403 rfl rfl rfl rfl ?_
            clear ha403 a403; intro a404 ha404
            refine st_skip ha404 rfl rfl rfl rfl ?_
            clear ha404 a404; intro a405 ha405
            refine st_skip ha405 rfl rfl rfl rfl ?_
            clear ha405 a405; intro a406 ha406
            refine st_skip ha406 rfl rfl rfl rfl ?_
            clear ha406 a406; intro a407 ha407
            refine st_y ha407 rfl (y_pickT ha407 rfl rfl) ?_
            clear ha407 a407; intro a408 ha408
            refine wpList_nil ?_
            refine hK49 _ _ ?_; clear hK49; try clear K49
            refine wp_cond_true (ha408.ev (x := .tmp 92) rfl) ?_
            refine wp_seq_k (fun K50 hK50 => ?_)
            have ha409 : Has 94 [(1, _), (71, _), (72, _), (73, _)] a408 := ha408.only [1, 71, 72, 73]; clear ha408
            refine wp_region_lit ?_
            refine st_y ha409 rfl (y_assign ha409 rfl) ?_
            clear ha409 a408; intro a410 ha410
            refine wpList_nil ?_
            refine hK50 _ _ ?_; clear hK50; try clear K50
            refine wp_ret ?_
            try dsimp only [Exit.then, Exit.inBlock]
            refine (ret1 (fn := Try.f19) ha410 rfl rfl ?_)
            exact ⟨false, rfl, iff_of_false (by simp) (fun h => by obtain ⟨v1, v2, v3, v4, v5, v6, v7, v8, v9⟩ := h; first | exact hN v1 | omega | (simp_all; done) | (simp_all; omega) | (have v10 := hpb.2 v8; simp_all; done) | (have v10 := v9 k hk; rw [getW hes] at v10; have v11 := hib.2 v10.2; simp_all; done) | (have v10 := v9 k hk; rw [getW hes] at v10; have v12 := v10.1; dsimp only at v12; omega)), m392.below⟩
           ·
            clear ha398
            try simp only [Q1x, Q2x, Q3x, Q4x, Q5x, Q6x, Q7x, Q8x, Q9x, Q0x, Qax, Qbx] at hb399
            refine st_g ha399 rfl rfl rfl rfl (y_fieldAddr ha399 (off := 1) rfl Try.underlying34 rfl (s := 0) (by kernel_rfl) rfl) ?_
            clear ha399 a398; intro a411 ha411
            refine st_g ha411 rfl rfl rfl rfl (y_loadB1 ha411 m392 (i := 9) rfl rfl rfl Try.underlying3 rfl) ?_
            clear ha411 a411; intro a412 ha412
            refine st_g ha412 rfl rfl rfl rfl (y_fieldAddr ha412 (off := 2) rfl Try.underlying34 rfl (s := 0) (by kernel_rfl) rfl) ?_
            clear ha412 a412; intro a413 ha413
            refine st_g ha413 rfl rfl rfl rfl (y_loadB1 ha413 m392 (i := 9) rfl rfl rfl Try.underlying3 rfl) ?_
            clear ha413 a413; intro a414 ha414
            refine st_g ha414 rfl rfl rfl rfl (y_fieldAddr ha414 (off := 1) rfl Try.underlying55 rfl (s := 0) (by kernel_rfl) rfl) ?_
            clear ha414 a414; intro a415 ha415
            refine st_g ha415 rfl rfl rfl rfl (y_loadB1 ha415 m392 (i := 101) rfl rfl rfl Try.underlying23 rfl) ?_
            clear ha415 a415; intro a416 ha416
            refine st_ge ha416 rfl rfl rfl rfl (fun K hK => ?_)
            refine e_call ha416 Try.func28 rfl rfl rfl rfl (vitems_nn _ _ xl _ _ _ _ ((hd385_1.now' m392 rfl).any) (hwl _ (List.mem_of_getElem? hes))) ?_
            rintro e w417 ⟨ib, rfl, hib, hb417⟩
            have m418 := m392.later hb417
            clear m392
            clear hb417
            refine ⟨_, rfl, fun a419 ha419 => ?_⟩; clear ha416 a416
            refine hK _ _ ?_; clear hK K
            refine st_g ha419 rfl rfl rfl rfl (y_not ha419 rfl) ?_
            clear ha419 a419; intro a420 ha420
            refine st_y ha420 rfl (y_pickF ha420 rfl rfl) ?_
            clear ha420 a420; intro a421 ha421
            refine wpList_nil ?_
            refine hK49 _ _ ?_; clear hK49; try clear K49
            refine bool_cases ha421 (t := 92) rfl (fun hb422 ha422 => ?_) (fun hb422 ha422 => ?_)
            ·
             clear ha421
             try simp only [Q1x, Q2x, Q3x, Q4x, Q5x, Q6x, Q7x, Q8x, Q9x, Q0x, Qax, Qbx] at hb422
             refine wp_cond_true (ha422.ev (x := .tmp 92) rfl) ?_
             refine wp_seq_k (fun K51 hK51 => ?_)
             have ha423 : Has 94 [(1, _), (71, _), (72, _), (73, _)] a421 := ha422.only [1, 71, 72, 73]; clear ha422
             refine wp_region_lit ?_
             refine st_y ha423 rfl (y_assign ha423 rfl) ?_
             clear ha423 a421; intro a424 ha424
             refine wpList_nil ?_
             refine hK51 _ _ ?_; clear hK51; try clear K51
             refine wp_ret ?_
             try dsimp only [Exit.then, Exit.inBlock]
             refine (ret1 (fn := Try.f19) ha424 rfl rfl ?_)
             exact ⟨false, rfl, iff_of_false (by simp) (fun h => by obtain ⟨v1, v2, v3, v4, v5, v6, v7, v8, v9⟩ := h; first | exact hN v1 | omega | (simp_all; done) | (simp_all; omega) | (have v10 := hpb.2 v8; simp_all; done) | (have v10 := v9 k hk; rw [getW hes] at v10; have v11 := hib.2 v10.2; simp_all; done) | (have v10 := v9 k hk; rw [getW hes] at v10; have v12 := v10.1; dsimp only at v12; omega)), m418.below⟩
            ·
             clear ha421
             try simp only [Q1x, Q2x, Q3x, Q4x, Q5x, Q6x, Q7x, Q8x, Q9x, Q0x, Qax, Qbx] at hb422
             refine wp_cond_false (ha422.ev (x := .tmp 92) rfl) ?_
             refine wp_skip ?_
             refine hK47 _ _ ?_; clear hK47; try clear K47
             have ha425 : Has 94 [(1, _), (71, _), (72, _), (73, _)] a421 := ha422.only [1, 71, 72, 73]; clear ha422
             refine wp_region_lit ?_
             refine st_y ha425 rfl (y_add ha425 rfl rfl (r := ((k + 1 : Nat) : Int)) (by rw [IntWalk.i64_in _ (by omega)]; omega)) ?_
             clear ha425 a421; intro a426 ha426
             refine st_y ha426 rfl (y_move ha426 rfl) ?_
             clear ha426 a426; intro a427 ha427
             refine wpList_nil ?_
             show ∃ n', n' < _ ∧ _
             exact ⟨ws.length - (k + 1), by omega, k + 1, _, by omega, rfl, wr_snoc hall hes (by omega) (hib.1 (by simp_all)), ha427.only [1, 71, 72, 73], m418.only [9]⟩
          ·
           clear ha382
           try simp only [Q1x, Q2x, Q3x, Q4x, Q5x, Q6x, Q7x, Q8x, Q9x, Q0x, Qax, Qbx] at hb383
           obtain rfl : k = ws.length := by omega
           refine wp_cond_false (ha383.ev (x := .tmp 74) rfl) ?_
           refine wp_exit ?_
           refine hK43 _ _ ?_; clear hK43; try clear K43
           refine wp_seq_k (fun K52 hK52 => ?_)
           refine wp_region_lit ?_
           refine st_y ha383 rfl (y_assign ha383 rfl) ?_
           clear ha383 a382; intro a428 ha428
           refine wpList_nil ?_
           refine hK52 _ _ ?_; clear hK52; try clear K52
           refine wp_ret ?_
           try dsimp only [Exit.then, Exit.inBlock]
           refine (ret1 (fn := Try.f19) ha428 rfl rfl ?_)
           exact ⟨true, rfl, iff_of_true rfl ⟨hN, by omega, by omega, by simp_all, by simp_all, by omega, by omega, hpb.1 (by simp_all), hall⟩, m381.below⟩
    ·
     clear ha318
     try simp only [Q1x, Q2x, Q3x, Q4x, Q5x, Q6x, Q7x, Q8x, Q9x, Q0x, Qax, Qbx] at hb319
     refine st_skip ha319 rfl rfl rfl rfl ?_
     clear ha319 a318; intro a429 ha429
     refine st_skip ha429 rfl rfl rfl rfl ?_
     clear ha429 a429; intro a430 ha430
     refine st_skip ha430 rfl rfl rfl rfl ?_
     clear ha430 a430; intro a431 ha431
     refine st_skip ha431 rfl rfl rfl rfl ?_
     clear ha431 a431; intro a432 ha432
     refine st_skip ha432 rfl rfl rfl rfl ?_
     clear ha432 a432; intro a433 ha433
     refine st_g ha433 rfl rfl rfl rfl (y_pickF ha433 rfl rfl) ?_
     clear ha433 a433; intro a434 ha434
     refine st_y ha434 rfl (y_pickF ha434 rfl rfl) ?_
     clear ha434 a434; intro a435 ha435
     refine wpList_nil ?_
     refine hK3 _ _ ?_; clear hK3; try clear K3
     refine wp_cond_false (ha435.ev (x := .tmp 54) rfl) ?_
     refine wp_skip ?_
     refine hK2 _ _ ?_; clear hK2; try clear K2
     refine wp_seq_k (fun K53 hK53 => ?_)
     refine wp_seq_k (fun K54 hK54 => ?_)
     have ha436 : Has 94 [(1, _), (2, _)] a435 := ha435.only [1, 2]; clear ha435
     have m437 : MemOk _ _ [(20, _), (21, _), (22, _)] _ := m37.only [20, 21, 22]; clear m37
     refine region_m 15 (B := [(20, _), (21, _), (22, _)]) (m437.to ⟨il, il, il, trivial⟩) m437 (by kernel_rfl) (fun w438 mB438 m438 => ?_); clear m437 mB438
     refine dyn 0 ha436 rfl rfl (m438.to ⟨il, il, il, trivial⟩) (fun W => y_fieldAddr ha436 (off := 8) rfl Try.underlying34 rfl (s := 0) (by kernel_rfl) rfl) ?_
     clear ha436 a435; intro a439 ha439
     refine dh 1 ha439 rfl rfl (m438.to ⟨il, il, il, trivial⟩) (fun W hW => y_loadB1 ha439 hW (i := 20) rfl rfl rfl Try.underlying2 rfl) ?_
     clear ha439 a439; intro a440 ha440
     refine dyn 2 ha440 rfl rfl (m438.to ⟨il, il, il, trivial⟩) (fun W => y_lss ha440 rfl rfl) ?_
     clear ha440 a440; intro a441 ha441
     refine dyn 3 ha441 rfl rfl (m438.to ⟨il, il, il, trivial⟩) (fun W => y_move ha441 rfl) ?_
     clear ha441 a441; intro a442 ha442
     refine bool_cases ha442 (t := 58) rfl (fun hb443 ha443 => ?_) (fun hb443 ha443 => ?_)
     ·
      clear ha442
      try simp only [Q1x, Q2x, Q3x, Q4x, Q5x, Q6x, Q7x, Q8x, Q9x, Q0x, Qax, Qbx] at hb443
      refine dskipn 4 ha443 rfl rfl rfl rfl rfl (m438.to ⟨il, il, il, trivial⟩) ?_
      clear ha443 a442; intro a444 ha444
      refine dskipn 5 ha444 rfl rfl rfl rfl rfl (m438.to ⟨il, il, il, trivial⟩) ?_
      clear ha444 a444; intro a445 ha445
      refine dskipn 6 ha445 rfl rfl rfl rfl rfl (m438.to ⟨il, il, il, trivial⟩) ?_
      clear ha445 a445; intro a446 ha446
      refine dskipn 7 ha446 rfl rfl rfl rfl rfl (m438.to ⟨il, il, il, trivial⟩) ?_
      clear ha446 a446; intro a447 ha447
      refine dskipn 8 ha447 rfl rfl rfl rfl rfl (m438.to ⟨il, il, il, trivial⟩) ?_
      clear ha447 a447; intro a448 ha448
      refine dyn 9 ha448 rfl rfl (m438.to ⟨il, il, il, trivial⟩) (fun W => y_pickT ha448 rfl rfl) ?_
      clear ha448 a448; intro a449 ha449
      refine dyn 10 ha449 rfl rfl (m438.to ⟨il, il, il, trivial⟩) (fun W => y_move ha449 rfl) ?_
      clear ha449 a449; intro a450 ha450
      refine dskipn 11 ha450 rfl rfl rfl rfl rfl (m438.to ⟨il, il, il, trivial⟩) ?_
      clear ha450 a450; intro a451 ha451
      refine dskipn 12 ha451 rfl rfl rfl rfl rfl (m438.to ⟨il, il, il, trivial⟩) ?_
      clear ha451 a451; intro a452 ha452
      refine dskipn 13 ha452 rfl rfl rfl rfl rfl (m438.to ⟨il, il, il, trivial⟩) ?_
      clear ha452 a452; intro a453 ha453
      refine dyn 14 ha453 rfl rfl (m438.to ⟨il, il, il, trivial⟩) (fun W => y_pickT ha453 rfl rfl) ?_
      clear ha453 a453; intro a454 ha454
      refine wpAnyE_done (by kernel_rfl) ?_ _
      refine hK54 _ _ ?_; clear hK54; try clear K54
      refine wp_cond_true (ha454.ev (x := .tmp 69) rfl) ?_
      refine wp_seq_k (fun K55 hK55 => ?_)
      have ha455 : Has 94 [(1, _), (2, _)] a454 := ha454.only [1, 2]; clear ha454
      refine wp_region_lit ?_
      refine st_y ha455 rfl (y_assign ha455 rfl) ?_
      clear ha455 a454; intro a456 ha456
      refine wpList_nil ?_
      refine hK55 _ _ ?_; clear hK55; try clear K55
      refine wp_ret ?_
      try dsimp only [Exit.then, Exit.inBlock]
      refine (ret1 (fn := Try.f19) ha456 rfl rfl ?_)
      exact ⟨false, rfl, iff_of_false (by simp) (fun h => by obtain ⟨v1, v2, v3, v4, v5, v6, v7, v8, v9⟩ := h; first | exact hN v1 | omega | (simp_all; done) | (simp_all; omega) | (have v10 := hpb.2 v8; simp_all; done) | (have v10 := v9 k hk; rw [getW hes] at v10; have v11 := hib.2 v10.2; simp_all; done) | (have v10 := v9 k hk; rw [getW hes] at v10; have v12 := v10.1; dsimp only at v12; omega)), m438.below⟩
     ·
      clear ha442
      try simp only [Q1x, Q2x, Q3x, Q4x, Q5x, Q6x, Q7x, Q8x, Q9x, Q0x, Qax, Qbx] at hb443
      refine dygn 4 ha443 rfl rfl rfl rfl rfl (m438.to ⟨il, il, il, trivial⟩) (fun W => y_fieldAddr ha443 (off := 8) rfl Try.underlying34 rfl (s := 0) (by kernel_rfl) rfl) ?_
      clear ha443 a442; intro a457 ha457
      refine dhg 5 ha457 rfl rfl rfl rfl rfl (m438.to ⟨il, il, il, trivial⟩) (fun W hW => y_loadB1 ha457 hW (i := 20) rfl rfl rfl Try.underlying2 rfl) ?_
      clear ha457 a457; intro a458 ha458
      refine dhg 6 ha458 rfl rfl rfl rfl rfl (m438.to ⟨il, il, il, trivial⟩) (fun W hW => y_loadBR ha458 hW (i := 20) rfl rfl Try.underlying34 rfl sz34rt (by simp) (by dsimp only [List.drop, List.take] <;> rfl)) ?_
      clear ha458 a458; intro a459 ha459
      refine stepE_only 7 rfl (by kernel_rfl) (wantedG ha459 rfl rfl rfl rfl) (fun K hK => ?_)
      refine e_call ha459 Try.func20 rfl rfl rfl rfl (vlen_any _ _ _ _ _ _ _ _ _ _ _ _ _ _ _ _ _ _) ?_
      rintro e w460 ⟨rfl, hb460⟩
      have m461 := m438.later hb460
      clear m438
      clear hb460
      refine ⟨_, rfl, fun a462 ha462 => ?_⟩; clear ha459 a459
      refine hK _ _ (m461.to ⟨il, il, il, trivial⟩) ?_; clear hK K
      refine dygn 8 ha462 rfl rfl rfl rfl rfl (m461.to ⟨il, il, il, trivial⟩) (fun W => y_gtr ha462 rfl rfl) ?_
      clear ha462 a462; intro a463 ha463
      refine dyn 9 ha463 rfl rfl (m461.to ⟨il, il, il, trivial⟩) (fun W => y_pickF ha463 rfl rfl) ?_
      clear ha463 a463; intro a464 ha464
      refine dyn 10 ha464 rfl rfl (m461.to ⟨il, il, il, trivial⟩) (fun W => y_move ha464 rfl) ?_
      clear ha464 a464; intro a465 ha465
      refine bool_cases ha465 (t := 65) rfl (fun hb466 ha466 => ?_) (fun hb466 ha466 => ?_)
      ·
       clear ha465
       try simp only [Q1x, Q2x, Q3x, Q4x, Q5x, Q6x, Q7x, Q8x, Q9x, Q0x, Qax, Qbx] at hb466
       refine dskipn 11 ha466 rfl rfl rfl rfl rfl (m461.to ⟨il, il, il, trivial⟩) ?_
       clear ha466 a465; intro a467 ha467
       refine dskipn 12 ha467 rfl rfl rfl rfl rfl (m461.to ⟨il, il, il, trivial⟩) ?_
       clear ha467 a467; intro a468 ha468
       refine dskipn 13 ha468 rfl rfl rfl rfl rfl (m461.to ⟨il, il, il, trivial⟩) ?_
       clear ha468 a468; intro a469 ha469
       refine dyn 14 ha469 rfl rfl (m461.to ⟨il, il, il, trivial⟩) (fun W => y_pickT ha469 rfl rfl) ?_
       clear ha469 a469; intro a470 ha470
       refine wpAnyE_done (by kernel_rfl) ?_ _
       refine hK54 _ _ ?_; clear hK54; try clear K54
       refine wp_cond_true (ha470.ev (x := .tmp 69) rfl) ?_
       refine wp_seq_k (fun K56 hK56 => ?_)
       have ha471 : Has 94 [(1, _), (2, _)] a470 := ha470.only [1, 2]; clear ha470
       refine wp_region_lit ?_
       refine st_y ha471 rfl (y_assign ha471 rfl) ?_
       clear ha471 a470; intro a472 ha472
       refine wpList_nil ?_
       refine hK56 _ _ ?_; clear hK56; try clear K56
       refine wp_ret ?_
       try dsimp only [Exit.then, Exit.inBlock]
       refine (ret1 (fn := Try.f19) ha472 rfl rfl ?_)
       exact ⟨false, rfl, iff_of_false (by simp) (fun h => by obtain ⟨v1, v2, v3, v4, v5, v6, v7, v8, v9⟩ := h; first | exact hN v1 | omega | (simp_all; done) | (simp_all; omega) | (have v10 := hpb.2 v8; simp_all; done) | (have v10 := v9 k hk; rw [getW hes] at v10; have v11 := hib.2 v10.2; simp_all; done) | (have v10 := v9 k hk; rw [getW hes] at v10; have v12 := v10.1; dsimp only at v12; omega)), m461.below⟩
      ·
       clear ha465
       try simp only [Q1x, Q2x, Q3x, Q4x, Q5x, Q6x, Q7x, Q8x, Q9x, Q0x, Qax, Qbx] at hb466
       refine dhg 11 ha466 rfl rfl rfl rfl rfl (m461.to ⟨il, il, il, trivial⟩) (fun W hW => y_loadBR ha466 hW (i := 20) rfl rfl Try.underlying34 rfl sz34rt (by simp) (by dsimp only [List.drop, List.take] <;> rfl)) ?_
       clear ha466 a465; intro a473 ha473
       refine stepE_only 12 rfl (by kernel_rfl) (wantedG ha473 rfl rfl rfl rfl) (fun K hK => ?_)
       refine e_call ha473 Try.func45 rfl rfl rfl rfl (pins_any _ _ _ _ _ _ _ _ place pins ws _ _ _ _ _ _ _ ((h1.now' m461 rfl).any) hp) ?_
       rintro e w474 ⟨pb, rfl, hpb, hb474⟩
       have m475 := m461.later hb474
       clear m461
       clear hb474
       refine ⟨_, rfl, fun a476 ha476 => ?_⟩; clear ha473 a473
       refine hK _ _ (m475.to ⟨il, il, il, trivial⟩) ?_; clear hK K
       refine dygn 13 ha476 rfl rfl rfl rfl rfl (m475.to ⟨il, il, il, trivial⟩) (fun W => y_not ha476 rfl) ?_
       clear ha476 a476; intro a477 ha477
       refine dyn 14 ha477 rfl rfl (m475.to ⟨il, il, il, trivial⟩) (fun W => y_pickF ha477 rfl rfl) ?_
       clear ha477 a477; intro a478 ha478
       refine wpAnyE_done (by kernel_rfl) ?_ _
       refine hK54 _ _ ?_; clear hK54; try clear K54
       refine bool_cases ha478 (t := 69) rfl (fun hb479 ha479 => ?_) (fun hb479 ha479 => ?_)
       ·
        clear ha478
        try simp only [Q1x, Q2x, Q3x, Q4x, Q5x, Q6x, Q7x, Q8x, Q9x, Q0x, Qax, Qbx] at hb479
        refine wp_cond_true (ha479.ev (x := .tmp 69) rfl) ?_
        refine wp_seq_k (fun K57 hK57 => ?_)
        have ha480 : Has 94 [(1, _), (2, _)] a478 := ha479.only [1, 2]; clear ha479
        refine wp_region_lit ?_
        refine st_y ha480 rfl (y_assign ha480 rfl) ?_
        clear ha480 a478; intro a481 ha481
        refine wpList_nil ?_
        refine hK57 _ _ ?_; clear hK57; try clear K57
        refine wp_ret ?_
        try dsimp only [Exit.then, Exit.inBlock]
        refine (ret1 (fn := Try.f19) ha481 rfl rfl ?_)
        exact ⟨false, rfl, iff_of_false (by simp) (fun h => by obtain ⟨v1, v2, v3, v4, v5, v6, v7, v8, v9⟩ := h; first | exact hN v1 | omega | (simp_all; done) | (simp_all; omega) | (have v10 := hpb.2 v8; simp_all; done) | (have v10 := v9 k hk; rw [getW hes] at v10; have v11 := hib.2 v10.2; simp_all; done) | (have v10 := v9 k hk; rw [getW hes] at v10; have v12 := v10.1; dsimp only at v12; omega)), m475.below⟩
       ·
        clear ha478
        try simp only [Q1x, Q2x, Q3x, Q4x, Q5x, Q6x, Q7x, Q8x, Q9x, Q0x, Qax, Qbx] at hb479
        refine wp_cond_false (ha479.ev (x := .tmp 69) rfl) ?_
        refine wp_skip ?_
        refine hK53 _ _ ?_; clear hK53; try clear K53
        refine wp_seq_k (fun K58 hK58 => ?_)
        refine wp_seq_k (fun K59 hK59 => ?_)
        have ha482 : Has 94 [(1, _), (2, _)] a478 := ha479.only [1, 2]; clear ha479
        refine wp_region_lit ?_
        refine st_y ha482 rfl (y_fieldAddr ha482 (off := 10) rfl Try.underlying34 rfl (s := 0) (by kernel_rfl) rfl) ?_
        clear ha482 a478; intro a483 ha483
        refine st_y ha483 rfl (y_loadB1 ha483 m475 (i := 20) rfl rfl rfl Try.underlying32 rfl) ?_
        clear ha483 a483; intro a484 ha484
        refine st_y ha484 rfl (y_len ha484 rfl Try.underlying32) ?_
        clear ha484 a484; intro a485 ha485
        refine st_y ha485 rfl (y_move ha485 rfl) ?_
        clear ha485 a485; intro a486 ha486
        refine wpList_nil ?_
        refine hK59 _ _ ?_; clear hK59; try clear K59
        refine wp_block ?_
        refine wp_loop_ghost (fun g a w => ∃ (k B : Nat), k ≤ ws.length ∧ g = ws.length - k ∧ WrPre bl sz ws k ∧ Has 94 [(1, .pointer (some ⟨B, 0, none⟩)), (71, .slice pw ws.length cw), (72, .int .i64 ws.length), (73, .int .i64 k)] a ∧ MemOk (cn w0) w0 [(9, .box B 34 [.int .i64 vo, .int .i64 bl, .int .i64 sz, .int .i64 pe, .slice pp place.length cp, .int .i64 to, .int .i64 ne, .bool hi, .int .i64 fl, .slice pn pins.length cn9, .slice pw ws.length cw])] w) (ws.length) ?_ ?_
        · exact ⟨0, _, Nat.zero_le _, rfl, (fun j hj => by omega), ha486.only [1, 71, 72, 73], m475.ren [(9, 20)] (by decide)⟩
        ·
         clear ha486 m475
         rintro g a487 w487 ⟨k, B, hkl, hg, hall, ha487, m487⟩
         refine wp_seq_k (fun K60 hK60 => ?_)
         refine wp_region_lit ?_
         refine st_y ha487 rfl (y_lss ha487 rfl rfl) ?_
         clear ha487 a487; intro a488 ha488
         refine wpList_nil ?_
         refine hK60 _ _ ?_; clear hK60; try clear K60
         refine wp_seq_k (fun K61 hK61 => ?_)
         refine bool_cases ha488 (t := 74) rfl (fun hb489 ha489 => ?_) (fun hb489 ha489 => ?_)
         ·
          clear ha488
          try simp only [Q1x, Q2x, Q3x, Q4x, Q5x, Q6x, Q7x, Q8x, Q9x, Q0x, Qax, Qbx] at hb489
          have hk : k < ws.length := by omega
          obtain ⟨⟨xs, xl⟩, hes⟩ : ∃ e, ws[k]? = some e := ⟨_, List.getElem?_eq_getElem hk⟩
          refine wp_cond_true (ha489.ev (x := .tmp 74) rfl) ?_
          refine wp_skip ?_
          refine hK61 _ _ ?_; clear hK61; try clear K61
          refine wp_seq_k (fun K62 hK62 => ?_)
          refine wp_block ?_
          refine wp_seq_k (fun K63 hK63 => ?_)
          refine wp_region_lit ?_
          refine st_y ha489 rfl (y_move ha489 rfl) ?_
          clear ha489 a488; intro a490 ha490
          obtain ⟨gx491, ox491, vx491, hp491, hl491, hR491, hrg491⟩ := h2.extA (k) (r := [.v (.int .i64 xs), .l 2 (xl.map itD)]) (wrD_get hes)
          cases hp491; clear hl491
          rcases hR491 with _ | ⟨hd491_0, _ | ⟨hd491_1, _ | _⟩⟩
          obtain rfl := hd491_0.v_out
          clear hd491_0
          obtain ⟨p492, c492, hv492, hw492⟩ := hd491_1.l_shape; subst hv492
          refine st_y ha490 rfl (y_idx ha490 rfl rfl Try.underlying32 sz55rt (k) rfl hk) ?_
          clear ha490 a490; intro a493 ha493
          refine st_y ha493 rfl (y_loadAt ha493 (hrg491 m487 rfl) rfl Try.underlying55 rfl sz55rt) ?_
          clear ha493 a493; intro a494 ha494
          refine wpList_plain rfl (fun K hK => ?_)
          refine e_alloc ha494 m487 101 zc55rt rfl ?_
          clear ha494 a494 m487; intro g495 a496 w496 ha496 m496 hB496 hg496
          clear hB496 hg496
          refine hK _ _ ?_; clear hK K
          refine st_y ha496 rfl (y_assign ha496 rfl) ?_
          clear ha496 a496; intro a497 ha497
          refine wpList_plain rfl (fun K hK => ?_)
          refine e_storeW ha497 m496 101 rfl rfl rfl rfl rfl sz55rt ?_
          clear m496; intro w498 m498 hB498
          clear hB498
          refine hK _ _ ?_; clear hK K
          refine wpList_nil ?_
          refine hK63 _ _ ?_; clear hK63; try clear K63
          refine wp_seq_k (fun K64 hK64 => ?_)
          refine wp_region_lit ?_
          refine st_y ha497 rfl (y_fieldAddr ha497 (off := 0) rfl Try.underlying55 rfl (s := 0) (by kernel_rfl) rfl) ?_
          clear ha497 a497; intro a499 ha499
          refine st_y ha499 rfl (y_loadB1 ha499 m498 (i := 101) rfl rfl rfl Try.underlying2 rfl) ?_
          clear ha499 a499; intro a500 ha500
          refine st_y ha500 rfl (y_move ha500 rfl) ?_
          clear ha500 a500; intro a501 ha501
          refine st_y ha501 rfl (y_add ha501 rfl rfl (r := ((k : Nat) : Int) + 1) (IntWalk.i64_in _ (by omega))) ?_
          clear ha501 a501; intro a502 ha502
          refine st_y ha502 rfl (y_neq ha502 rfl rfl) ?_
          clear ha502 a502; intro a503 ha503
          refine st_y ha503 rfl (y_move ha503 rfl) ?_
          clear ha503 a503; intro a504 ha504
          refine bool_cases ha504 (t := 83) rfl (fun hb505 ha505 => ?_) (fun hb505 ha505 => ?_)
          ·
           clear ha504
           try simp only [Q1x, Q2x, Q3x, Q4x, Q5x, Q6x, Q7x, Q8x, Q9x, Q0x, Qax, Qbx] at hb505
           refine st_skip ha505 rfl rfl rfl rfl ?_
           clear ha505 a504; intro a506 ha506
           refine st_skip ha506 rfl rfl rfl rfl ?_
           clear ha506 a506; intro a507 ha507
           refine st_skip ha507 rfl rfl rfl rfl ?_
           clear ha507 a507; intro a508 ha508
           refine st_skip ha508 rfl rfl rfl rfl ?_
           clear ha508 a508; intro a509 ha509
           refine st_skip ha509 rfl rfl rfl rfl ?_
           clear ha509 a509; intro a510 ha510
           refine st_skip ha510 rfl rfl rfl rfl ?_
           clear ha510 a510; intro a511 ha511
           refine st_skip ha511 rfl rfl rfl rfl ?_
           clear ha511 a511; intro a512 ha512
           refine st_skip ha512 rfl rfl rfl rfl ?_
           clear ha512 a512; intro a513 ha513
           refine st_y ha513 rfl (y_pickT ha513 rfl rfl) ?_
           clear ha513 a513; intro a514 ha514
           refine wpList_nil ?_
           refine hK64 _ _ ?_; clear hK64; try clear K64
           refine wp_cond_true (ha514.ev (x := .tmp 92) rfl) ?_
           refine wp_seq_k (fun K65 hK65 => ?_)
           have ha515 : Has 94 [(1, _), (71, _), (72, _), (73, _)] a514 := ha514.only [1, 71, 72, 73]; clear ha514
           refine wp_region_lit ?_
           refine st_y ha515 rfl (y_assign ha515 rfl) ?_
           clear ha515 a514; intro a516 ha516
           refine wpList_nil ?_
           refine hK65 _ _ ?_; clear hK65; try clear K65
           refine wp_ret ?_
           try dsimp only [Exit.then, Exit.inBlock]
           refine (ret1 (fn := Try.f19) ha516 rfl rfl ?_)
           exact ⟨false, rfl, iff_of_false (by simp) (fun h => by obtain ⟨v1, v2, v3, v4, v5, v6, v7, v8, v9⟩ := h; first | exact hN v1 | omega | (simp_all; done) | (simp_all; omega) | (have v10 := hpb.2 v8; simp_all; done) | (have v10 := v9 k hk; rw [getW hes] at v10; have v11 := hib.2 v10.2; simp_all; done) | (have v10 := v9 k hk; rw [getW hes] at v10; have v12 := v10.1; dsimp only at v12; omega)), m498.below⟩
          ·
           clear ha504
           try simp only [Q1x, Q2x, Q3x, Q4x, Q5x, Q6x, Q7x, Q8x, Q9x, Q0x, Qax, Qbx] at hb505
           refine st_g ha505 rfl rfl rfl rfl (y_fieldAddr ha505 (off := 1) rfl Try.underlying34 rfl (s := 0) (by kernel_rfl) rfl) ?_
           clear ha505 a504; intro a517 ha517
           refine st_g ha517 rfl rfl rfl rfl (y_loadB1 ha517 m498 (i := 9) rfl rfl rfl Try.underlying3 rfl) ?_
           clear ha517 a517; intro a518 ha518
           refine st_g ha518 rfl rfl rfl rfl (y_fieldAddr ha518 (off := 2) rfl Try.underlying34 rfl (s := 0) (by kernel_rfl) rfl) ?_
           clear ha518 a518; intro a519 ha519
           refine st_g ha519 rfl rfl rfl rfl (y_loadB1 ha519 m498 (i := 9) rfl rfl rfl Try.underlying3 rfl) ?_
           clear ha519 a519; intro a520 ha520
           refine st_g ha520 rfl rfl rfl rfl (y_fieldAddr ha520 (off := 1) rfl Try.underlying55 rfl (s := 0) (by kernel_rfl) rfl) ?_
           clear ha520 a520; intro a521 ha521
           refine st_g ha521 rfl rfl rfl rfl (y_loadB1 ha521 m498 (i := 101) rfl rfl rfl Try.underlying23 rfl) ?_
           clear ha521 a521; intro a522 ha522
           refine st_ge ha522 rfl rfl rfl rfl (fun K hK => ?_)
           refine e_call ha522 Try.func28 rfl rfl rfl rfl (vitems_nn _ _ xl _ _ _ _ ((hd491_1.now' m498 rfl).any) (hwl _ (List.mem_of_getElem? hes))) ?_
           rintro e w523 ⟨ib, rfl, hib, hb523⟩
           have m524 := m498.later hb523
           clear m498
           clear hb523
           refine ⟨_, rfl, fun a525 ha525 => ?_⟩; clear ha522 a522
           refine hK _ _ ?_; clear hK K
           refine st_g ha525 rfl rfl rfl rfl (y_not ha525 rfl) ?_
           clear ha525 a525; intro a526 ha526
           refine st_y ha526 rfl (y_pickF ha526 rfl rfl) ?_
           clear ha526 a526; intro a527 ha527
           refine wpList_nil ?_
           refine hK64 _ _ ?_; clear hK64; try clear K64
           refine bool_cases ha527 (t := 92) rfl (fun hb528 ha528 => ?_) (fun hb528 ha528 => ?_)
           ·
            clear ha527
            try simp only [Q1x, Q2x, Q3x, Q4x, Q5x, Q6x, Q7x, Q8x, Q9x, Q0x, Qax, Qbx] at hb528
            refine wp_cond_true (ha528.ev (x := .tmp 92) rfl) ?_
            refine wp_seq_k (fun K66 hK66 => ?_)
            have ha529 : Has 94 [(1, _), (71, _), (72, _), (73, _)] a527 := ha528.only [1, 71, 72, 73]; clear ha528
            refine wp_region_lit ?_
            refine st_y ha529 rfl (y_assign ha529 rfl) ?_
            clear ha529 a527; intro a530 ha530
            refine wpList_nil ?_
            refine hK66 _ _ ?_; clear hK66; try clear K66
            refine wp_ret ?_
            try dsimp only [Exit.then, Exit.inBlock]
            refine (ret1 (fn := Try.f19) ha530 rfl rfl ?_)
            exact ⟨false, rfl, iff_of_false (by simp) (fun h => by obtain ⟨v1, v2, v3, v4, v5, v6, v7, v8, v9⟩ := h; first | exact hN v1 | omega | (simp_all; done) | (simp_all; omega) | (have v10 := hpb.2 v8; simp_all; done) | (have v10 := v9 k hk; rw [getW hes] at v10; have v11 := hib.2 v10.2; simp_all; done) | (have v10 := v9 k hk; rw [getW hes] at v10; have v12 := v10.1; dsimp only at v12; omega)), m524.below⟩
           ·
            clear ha527
            try simp only [Q1x, Q2x, Q3x, Q4x, Q5x, Q6x, Q7x, Q8x, Q9x, Q0x, Qax, Qbx] at hb528
            refine wp_cond_false (ha528.ev (x := .tmp 92) rfl) ?_
            refine wp_skip ?_
            refine hK62 _ _ ?_; clear hK62; try clear K62
            have ha531 : Has 94 [(1, _), (71, _), (72, _), (73, _)] a527 := ha528.only [1, 71, 72, 73]; clear ha528
            refine wp_region_lit ?_
            refine st_y ha531 rfl (y_add ha531 rfl rfl (r := ((k + 1 : Nat) : Int)) (by rw [IntWalk.i64_in _ (by omega)]; omega)) ?_
            clear ha531 a527; intro a532 ha532
            refine st_y ha532 rfl (y_move ha532 rfl) ?_
            clear ha532 a532; intro a533 ha533
            refine wpList_nil ?_
            show ∃ n', n' < _ ∧ _
            exact ⟨ws.length - (k + 1), by omega, k + 1, _, by omega, rfl, wr_snoc hall hes (by omega) (hib.1 (by simp_all)), ha533.only [1, 71, 72, 73], m524.only [9]⟩
         ·
          clear ha488
          try simp only [Q1x, Q2x, Q3x, Q4x, Q5x, Q6x, Q7x, Q8x, Q9x, Q0x, Qax, Qbx] at hb489
          obtain rfl : k = ws.length := by omega
          refine wp_cond_false (ha489.ev (x := .tmp 74) rfl) ?_
          refine wp_exit ?_
          refine hK58 _ _ ?_; clear hK58; try clear K58
          refine wp_seq_k (fun K67 hK67 => ?_)
          refine wp_region_lit ?_
          refine st_y ha489 rfl (y_assign ha489 rfl) ?_
          clear ha489 a488; intro a534 ha534
          refine wpList_nil ?_
          refine hK67 _ _ ?_; clear hK67; try clear K67
          refine wp_ret ?_
          try dsimp only [Exit.then, Exit.inBlock]
          refine (ret1 (fn := Try.f19) ha534 rfl rfl ?_)
          exact ⟨true, rfl, iff_of_true rfl ⟨hN, by omega, by omega, by simp_all, by simp_all, by omega, by omega, hpb.1 (by simp_all), hall⟩, m487.below⟩
 ·
  refine wp_region_lit ?_
  refine st_y ha3 rfl (y_fieldAddr ha3 (off := 0) rfl Try.underlying34 rfl (s := 0) (by kernel_rfl) rfl) ?_
  clear ha3 a3; intro a535 ha535
  refine st_y ha535 rfl (y_loadB1 ha535 m2 (i := 20) rfl rfl rfl Try.underlying3 rfl) ?_
  clear ha535 a535; intro a536 ha536
  refine st_y ha536 rfl (y_fieldAddr ha536 (off := 1) rfl Try.underlying34 rfl (s := 0) (by kernel_rfl) rfl) ?_
  clear ha536 a536; intro a537 ha537
  refine st_y ha537 rfl (y_loadB1 ha537 m2 (i := 20) rfl rfl rfl Try.underlying3 rfl) ?_
  clear ha537 a537; intro a538 ha538
  refine st_y ha538 rfl (y_fieldAddr ha538 (off := 2) rfl Try.underlying34 rfl (s := 0) (by kernel_rfl) rfl) ?_
  clear ha538 a538; intro a539 ha539
  refine st_y ha539 rfl (y_loadB1 ha539 m2 (i := 20) rfl rfl rfl Try.underlying3 rfl) ?_
  clear ha539 a539; intro a540 ha540
  refine st_y ha540 rfl (y_fieldAddr ha540 (off := 3) rfl Try.underlying34 rfl (s := 0) (by kernel_rfl) rfl) ?_
  clear ha540 a540; intro a541 ha541
  refine st_y ha541 rfl (y_loadB1 ha541 m2 (i := 20) rfl rfl rfl Try.underlying3 rfl) ?_
  clear ha541 a541; intro a542 ha542
  refine st_y ha542 rfl (y_fieldAddr ha542 (off := 4) rfl Try.underlying34 rfl (s := 0) (by kernel_rfl) rfl) ?_
  clear ha542 a542; intro a543 ha543
  refine st_y ha543 rfl (y_loadB1 ha543 m2 (i := 20) rfl rfl rfl Try.underlying22 rfl) ?_
  clear ha543 a543; intro a544 ha544
  refine st_y ha544 rfl (y_fieldAddr ha544 (off := 5) rfl Try.underlying34 rfl (s := 0) (by kernel_rfl) rfl) ?_
  clear ha544 a544; intro a545 ha545
  refine st_y ha545 rfl (y_loadB1 ha545 m2 (i := 20) rfl rfl rfl Try.underlying3 rfl) ?_
  clear ha545 a545; intro a546 ha546
  refine st_y ha546 rfl (y_build ha546 rfl zc25rt fl25rt rfl (by dsimp only [setL, List.set] <;> rfl)) ?_
  clear ha546 a546; intro a547 ha547
  refine wpList_plain rfl (fun K hK => ?_)
  refine e_call ha547 Try.func11 rfl rfl rfl rfl (vnew_no _ _ _ _ _ _ _ _ place _ _ _ _ _ _ ((h0.now' m2 rfl).any) hn hN) ?_
  rintro e w548 ⟨rfl, hb548⟩
  have m549 := m2.later hb548
  clear m2
  clear hb548
  refine ⟨_, rfl, fun a550 ha550 => ?_⟩; clear ha547 a547
  refine hK _ _ ?_; clear hK K
  refine st_y ha550 rfl (y_move ha550 rfl) ?_
  clear ha550 a550; intro a551 ha551
  refine st_y ha551 rfl (y_extract ha551 rfl rfl) ?_
  clear ha551 a551; intro a552 ha552
  refine st_y ha552 rfl (y_extract ha552 rfl rfl) ?_
  clear ha552 a552; intro a553 ha553
  refine wpList_plain rfl (fun K hK => ?_)
  refine e_alloc ha553 m549 21 zc34rt rfl ?_
  clear ha553 a553 m549; intro g554 a555 w555 ha555 m555 hB555 hg555
  clear hB555 hg555
  refine hK _ _ ?_; clear hK K
  refine wpList_plain rfl (fun K hK => ?_)
  refine e_storeW ha555 m555 21 rfl rfl rfl rfl rfl sz34rt ?_
  clear m555; intro w556 m556 hB556
  clear hB556
  refine hK _ _ ?_; clear hK K
  refine st_y ha555 rfl (y_assign ha555 rfl) ?_
  clear ha555 a555; intro a557 ha557
  refine wpList_nil ?_
  refine hK1 _ _ ?_; clear hK1; try clear K1
  refine wp_seq_k (fun K68 hK68 => ?_)
  refine wp_seq_k (fun K69 hK69 => ?_)
  have ha558 : Has 94 [(1, _), (2, _), (4, _)] a557 := ha557.only [1, 2, 4]; clear ha557
  refine wp_region_lit ?_
  refine st_y ha558 rfl (y_move ha558 rfl) ?_
  clear ha558 a557; intro a559 ha559
  refine st_y ha559 rfl (y_neq ha559 rfl rfl) ?_
  clear ha559 a559; intro a560 ha560
  refine st_y ha560 rfl (y_move ha560 rfl) ?_
  clear ha560 a560; intro a561 ha561
  refine bool_cases ha561 (t := 26) rfl (fun hb562 ha562 => ?_) (fun hb562 ha562 => ?_)
  rotate_left
  · exact absurd hb562 (by simp)
  clear ha561 hb562
  refine st_skip ha562 rfl rfl rfl rfl ?_
  clear ha562 a561; intro a563 ha563
  refine st_skip ha563 rfl rfl rfl rfl ?_
  clear ha563 a563; intro a564 ha564
  refine st_skip ha564 rfl rfl rfl rfl ?_
  clear ha564 a564; intro a565 ha565
  refine st_skip ha565 rfl rfl rfl rfl ?_
  clear ha565 a565; intro a566 ha566
  refine st_skip ha566 rfl rfl rfl rfl ?_
  clear ha566 a566; intro a567 ha567
  refine st_skip ha567 rfl rfl rfl rfl ?_
  clear ha567 a567; intro a568 ha568
  refine st_y ha568 rfl (y_pickT ha568 rfl rfl) ?_
  clear ha568 a568; intro a569 ha569
  refine st_y ha569 rfl (y_move ha569 rfl) ?_
  clear ha569 a569; intro a570 ha570
  refine st_skip ha570 rfl rfl rfl rfl ?_
  clear ha570 a570; intro a571 ha571
  refine st_skip ha571 rfl rfl rfl rfl ?_
  clear ha571 a571; intro a572 ha572
  refine st_skip ha572 rfl rfl rfl rfl ?_
  clear ha572 a572; intro a573 ha573
  refine st_skipU ha573 rfl rfl rfl rfl ?_
  clear ha573 a573; intro a574 ha574
  refine st_skipU ha574 rfl rfl rfl rfl ?_
  clear ha574 a574; intro a575 ha575
  refine st_skipU ha575 rfl rfl rfl rfl ?_
  clear ha575 a575; intro a576 ha576
  refine st_skip ha576 rfl rfl rfl rfl ?_
  clear ha576 a576; intro a577 ha577
  refine st_y ha577 rfl (y_pickT ha577 rfl rfl) ?_
  clear ha577 a577; intro a578 ha578
  refine st_y ha578 rfl (y_move ha578 rfl) ?_
  clear ha578 a578; intro a579 ha579
  refine st_skip ha579 rfl rfl rfl rfl ?_
  clear ha579 a579; intro a580 ha580
  refine st_skip ha580 rfl rfl rfl rfl ?_
  clear ha580 a580; intro a581 ha581
  refine st_skip ha581 rfl rfl rfl rfl ?_
  clear ha581 a581; intro a582 ha582
  refine st_skip ha582 rfl rfl rfl rfl ?_
  clear ha582 a582; intro a583 ha583
  refine st_skipU ha583 rfl rfl rfl rfl ?_
  clear ha583 a583; intro a584 ha584
  refine st_skipU ha584 rfl rfl rfl rfl ?_
  clear ha584 a584; intro a585 ha585
  refine st_skipU ha585 rfl rfl rfl rfl ?_
  clear ha585 a585; intro a586 ha586
  refine st_skipU ha586 rfl rfl rfl rfl ?_
  clear ha586 a586; intro a587 ha587
  refine st_skipU ha587 rfl rfl rfl rfl ?_
  clear ha587 a587; intro a588 ha588
  refine st_skip ha588 rfl rfl rfl rfl ?_
  clear ha588 a588; intro a589 ha589
  refine st_y ha589 rfl (y_pickT ha589 rfl rfl) ?_
  clear ha589 a589; intro a590 ha590
  refine wpList_nil ?_
  refine hK69 _ _ ?_; clear hK69; try clear K69
  refine wp_cond_true (ha590.ev (x := .tmp 54) rfl) ?_
  refine wp_seq_k (fun K70 hK70 => ?_)
  have ha591 : Has 94 [(1, _), (2, _)] a590 := ha590.only [1, 2]; clear ha590
  refine wp_region_lit ?_
  refine st_y ha591 rfl (y_assign ha591 rfl) ?_
  clear ha591 a590; intro a592 ha592
  refine wpList_nil ?_
  refine hK70 _ _ ?_; clear hK70; try clear K70
  refine wp_ret ?_
  try dsimp only [Exit.then, Exit.inBlock]
  refine (ret1 (fn := Try.f19) ha592 rfl rfl ?_)
  exact ⟨false, rfl, iff_of_false (by simp) (fun h => by obtain ⟨v1, v2, v3, v4, v5, v6, v7, v8, v9⟩ := h; first | exact hN v1 | omega | (simp_all; done) | (simp_all; omega) | (have v10 := hpb.2 v8; simp_all; done) | (have v10 := v9 k hk; rw [getW hes] at v10; have v11 := hib.2 v10.2; simp_all; done) | (have v10 := v9 k hk; rw [getW hes] at v10; have v12 := v10.1; dsimp only at v12; omega)), m556.below⟩
end Go.Proofs.Ytocfbocdnklllaa.K
