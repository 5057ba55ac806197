/- volume: within, Len, placeRight, New; the reference's Chunks. -/
import Derived.Test.YtocfbocdnklllaaAb16
import Derived.Test.YtocfbocdnklllaaAbS
import Derived.Lib.AppendZerosOnto
namespace Go.Proofs.Ytocfbocdnklllaa.K
open Go.ChangeShapes Go.WideShapes Go.ChangeAt Go.RowKit
set_option linter.unusedVariables false
set_option linter.unusedSimpArgs false

theorem inf3pi : (Try.prog.info? 3).map (fun i => (i.zero, i.size, i.bytes)) = some (some (.int .i64 0), 1, 8) := by kernel_rfl



theorem sz3pr : (Try.prog.info? 3).map (·.size) = some 1 := by kernel_rfl
theorem fl34nw : flatS Try.prog 34 [.int .i64 0, .int .i64 0, .int .i64 0, .int .i64 0, .slice none 0 0, .int .i64 0, .int .i64 0, .bool false, .int .i64 0, .slice none 0 0, .slice none 0 0] = true := by kernel_rfl
theorem sz25nw : (Try.prog.info? 25).map (·.size) = some 10 := by kernel_rfl
theorem sz34nw : (Try.prog.info? 34).map (·.size) = some 11 := by kernel_rfl
theorem zc34nw : ((Try.prog.info? 34).bind (·.zero)).map (·.cells.toList) = some [.int .i64 0, .int .i64 0, .int .i64 0, .int .i64 0, .slice none 0 0, .int .i64 0, .int .i64 0, .bool false, .int .i64 0, .slice none 0 0, .slice none 0 0] := by kernel_rfl

def PlaceOk (bl pe : Int) (place : List Int) : Prop := (∀ g ∈ place, 1 ≤ g ∧ g ≤ 7) ∧ (place.length : Int) = (bl + pe - 1) / pe
def NewOk (vo bl sz pe to : Int) (place : List Int) : Prop := 0 ≤ vo ∧ vo ≤ 7 ∧ 1 ≤ bl ∧ bl ≤ 256 ∧ 1 ≤ sz ∧ sz ≤ 32 ∧ 1 ≤ pe ∧ pe ≤ bl ∧ PlaceOk bl pe place ∧ 0 ≤ to ∧ to ≤ 1099511627776
theorem getD_mem {l : List Int} {k : Nat} (h : k < l.length) : l.getD k 0 ∈ l := by rw [List.getD, List.getElem?_eq_getElem h]; exact List.getElem_mem _
theorem all_snoc {l : List Int} {k : Nat} {P : Int → Prop} (h : ∀ j, j < k → P (l.getD j 0)) (hk : P (l.getD k 0)) : ∀ j, j < k + 1 → P (l.getD j 0) := fun j hj => by
 rcases Nat.lt_or_ge j k with h1 | h1
 · exact h j h1
 · obtain rfl : j = k := by omega
   exact hk
theorem all_mem {l : List Int} {P : Int → Prop} (h : ∀ j, j < l.length → P (l.getD j 0)) : ∀ g ∈ l, P g := fun g hg => by
 obtain ⟨j, hj, rfl⟩ := List.getElem_of_mem hg
 have := h j hj
 rwa [List.getD, List.getElem?_eq_getElem hj] at this
set_option maxRecDepth 100000
set_option maxHeartbeats 4000000
theorem plainI_any (d : List Int) (p0 : Option Addr) (c0 : Nat) (w0 : World) (h0 : Rd (fun _ => True) w0 (.slice p0 d.length c0) (.ns .i64 d)) (hd : d.length ≤ 1000000) :
   Calls Try.prog 37 #[.slice p0 d.length c0] w0 fun e w' => ∃ p c, e = .returned (.slice p d.length c) ∧ Rd (New w0) w' (.slice p d.length c) (.ns .i64 d) ∧ Below w0.heap.size w0 w' := by
 refine enter (fn := Try.f37) Try.func37 rfl Try.ntmps37 rfl (fun a0 ha0 => ?_)
 simp only [List.zipIdx_cons, List.zipIdx_nil, List.map_cons, List.map_nil, Nat.reduceAdd, Nat.zero_add] at ha0
 have m0 := MemOk.start (fun _ => False) w0
 refine wp_seq_k (fun K0 hK0 => ?_)
 refine wp_region_lit ?_
 refine st_y ha0 rfl (y_assign ha0 rfl) ?_
 clear ha0 a0; intro a1 ha1
 refine wpList_nil ?_
 refine hK0 _ _ ?_; clear hK0; try clear K0
 refine wp_seq_k (fun K1 hK1 => ?_)
 refine wp_region_lit ?_
 refine st_y ha1 rfl (y_move ha1 rfl) ?_
 clear ha1 a1; intro a2 ha2
 refine wpList_plain rfl (fun K hK => ?_)
 refine e_app0N ha2 m0 2 rfl rfl (h0.now' m0 rfl).ns_out.nums Try.underlying22 inf3pi (by decide) (by omega) rfl ?_
 clear ha2 a2 m0; intro p3 c3 a4 w4 ha4 m4
 refine hK _ _ ?_; clear hK K
 refine st_y ha4 rfl (y_assign ha4 rfl) ?_
 clear ha4 a4; intro a5 ha5
 refine wpList_nil ?_
 refine hK1 _ _ ?_; clear hK1; try clear K1
 refine wp_ret ?_
 try dsimp only [Exit.then, Exit.inBlock]
 refine (ret1 (fn := Try.f37) ha5 rfl rfl ?_)
 have m6 := m4.freezeN 2 rfl; clear m4
 exact ⟨_, _, rfl, m6.outF (i := 2) rfl, m6.below⟩
theorem within_any (n lo hi : Int) (w0 : World) :
   Calls Try.prog 35 #[.int .i64 n, .int .i64 lo, .int .i64 hi] w0 fun e w' => e = .returned (.bool (decide (lo ≤ n ∧ n ≤ hi))) ∧ Below w0.heap.size w0 w' := by
 refine enter (fn := Try.f35) Try.func35 rfl Try.ntmps35 rfl (fun a0 ha0 => ?_)
 simp only [List.zipIdx_cons, List.zipIdx_nil, List.map_cons, List.map_nil, Nat.reduceAdd, Nat.zero_add] at ha0
 have m0 := MemOk.start (fun _ => False) w0
 refine wp_seq_k (fun K0 hK0 => ?_)
 refine wp_region_lit ?_
 refine st_y ha0 rfl (y_assign ha0 rfl) ?_
 clear ha0 a0; intro a1 ha1
 refine wpList_nil ?_
 refine hK0 _ _ ?_; clear hK0; try clear K0
 refine wp_seq_k (fun K1 hK1 => ?_)
 refine wp_region_lit ?_
 refine st_y ha1 rfl (y_move ha1 rfl) ?_
 clear ha1 a1; intro a2 ha2
 refine st_y ha2 rfl (y_move ha2 rfl) ?_
 clear ha2 a2; intro a3 ha3
 refine st_y ha3 rfl (y_geq ha3 rfl rfl) ?_
 clear ha3 a3; intro a4 ha4
 refine st_y ha4 rfl (y_move ha4 rfl) ?_
 clear ha4 a4; intro a5 ha5
 refine bool_cases ha5 (t := 10) rfl (fun hb6 ha6 => ?_) (fun hb6 ha6 => ?_)
 ·
  clear ha5
  try simp only [Q1x, Q2x, Q3x, Q4x, Q5x, Q6x, Q7x, Q8x, Q9x, Q0x, Qax, Qbx] at hb6
  refine st_g ha6 rfl rfl rfl rfl (y_move ha6 rfl) ?_
  clear ha6 a5; intro a7 ha7
  refine st_g ha7 rfl rfl rfl rfl (y_move ha7 rfl) ?_
  clear ha7 a7; intro a8 ha8
  refine st_g ha8 rfl rfl rfl rfl (y_leq ha8 rfl rfl) ?_
  clear ha8 a8; intro a9 ha9
  refine st_y ha9 rfl (y_pickT ha9 rfl rfl) ?_
  clear ha9 a9; intro a10 ha10
  refine st_y ha10 rfl (y_assign ha10 rfl) ?_
  clear ha10 a10; intro a11 ha11
  refine wpList_nil ?_
  refine hK1 _ _ ?_; clear hK1; try clear K1
  refine wp_ret ?_
  try dsimp only [Exit.then, Exit.inBlock]
  refine (ret1 (fn := Try.f35) ha11 rfl rfl ?_)
  exact ⟨by first | rfl | (simp_all; done) | (simp_all; omega), m0.below⟩
 ·
  clear ha5
  try simp only [Q1x, Q2x, Q3x, Q4x, Q5x, Q6x, Q7x, Q8x, Q9x, Q0x, Qax, Qbx] at hb6
  refine st_skip ha6 rfl rfl rfl rfl ?_
  clear ha6 a5; intro a12 ha12
  refine st_skip ha12 rfl rfl rfl rfl ?_
  clear ha12 a12; intro a13 ha13
  refine st_skip ha13 rfl rfl rfl rfl ?_
  clear ha13 a13; intro a14 ha14
  refine st_y ha14 rfl (y_pickF ha14 rfl rfl) ?_
  clear ha14 a14; intro a15 ha15
  refine st_y ha15 rfl (y_assign ha15 rfl) ?_
  clear ha15 a15; intro a16 ha16
  refine wpList_nil ?_
  refine hK1 _ _ ?_; clear hK1; try clear K1
  refine wp_ret ?_
  try dsimp only [Exit.then, Exit.inBlock]
  refine (ret1 (fn := Try.f35) ha16 rfl rfl ?_)
  exact ⟨by first | rfl | (simp_all; done) | (simp_all; omega), m0.below⟩
theorem chunks_any (a b : Int) (w0 : World) (ha : 0 ≤ a ∧ a ≤ 1000000) (hb : 1 ≤ b ∧ b ≤ 1000000) :
   Calls Try.prog 33 #[.int .i64 a, .int .i64 b] w0 fun e w' => e = .returned (.int .i64 ((a + b - 1) / b)) ∧ Below w0.heap.size w0 w' := by
 refine enter (fn := Try.f33) Try.func33 rfl Try.ntmps33 rfl (fun a0 ha0 => ?_)
 simp only [List.zipIdx_cons, List.zipIdx_nil, List.map_cons, List.map_nil, Nat.reduceAdd, Nat.zero_add] at ha0
 have m0 := MemOk.start (fun _ => False) w0
 refine wp_seq_k (fun K0 hK0 => ?_)
 refine wp_region_lit ?_
 refine st_y ha0 rfl (y_assign ha0 rfl) ?_
 clear ha0 a0; intro a1 ha1
 refine wpList_nil ?_
 refine hK0 _ _ ?_; clear hK0; try clear K0
 refine wp_seq_k (fun K1 hK1 => ?_)
 refine wp_region_lit ?_
 refine st_y ha1 rfl (y_move ha1 rfl) ?_
 clear ha1 a1; intro a2 ha2
 refine st_y ha2 rfl (y_move ha2 rfl) ?_
 clear ha2 a2; intro a3 ha3
 refine st_y ha3 rfl (y_add ha3 rfl rfl (r := a + b) (IntWalk.i64_in _ (by omega))) ?_
 clear ha3 a3; intro a4 ha4
 refine st_y ha4 rfl (y_sub ha4 rfl rfl (r := a + b - 1) (IntWalk.i64_in _ (by omega))) ?_
 clear ha4 a4; intro a5 ha5
 refine st_y ha5 rfl (y_move ha5 rfl) ?_
 clear ha5 a5; intro a6 ha6
 refine st_y ha6 rfl (y_quo ha6 rfl rfl (by omega) (r := (a + b - 1) / b) (by rw [Int.tdiv_eq_ediv_of_nonneg (by omega)]; exact IntWalk.i64_in _ (by have := Int.ediv_le_self b (show 0 ≤ a + b - 1 by omega); have := Int.ediv_nonneg (show 0 ≤ a + b - 1 by omega) (show 0 ≤ b by omega); omega))) ?_
 clear ha6 a6; intro a7 ha7
 refine st_y ha7 rfl (y_assign ha7 rfl) ?_
 clear ha7 a7; intro a8 ha8
 refine wpList_nil ?_
 refine hK1 _ _ ?_; clear hK1; try clear K1
 refine wp_ret ?_
 try dsimp only [Exit.then, Exit.inBlock]
 refine (ret1 (fn := Try.f33) ha8 rfl rfl ?_)
 exact ⟨rfl, m0.below⟩
theorem vlen_any (vo bl sz pe to ne fl : Int) (hi : Bool) (pp pn pw : Option Addr) (np cp nn cn nw cw : Nat) (w0 : World) :
   Calls Try.prog 20 #[.agg #[.int .i64 vo, .int .i64 bl, .int .i64 sz, .int .i64 pe, .slice pp np cp, .int .i64 to, .int .i64 ne, .bool hi, .int .i64 fl, .slice pn nn cn, .slice pw nw cw]] w0 fun e w' => e = .returned (.int .i64 (nw : Int)) ∧ Below w0.heap.size w0 w' := by
 refine enter (fn := Try.f20) Try.func20 rfl Try.ntmps20 rfl (fun a0 ha0 => ?_)
 simp only [List.zipIdx_cons, List.zipIdx_nil, List.map_cons, List.map_nil, Nat.reduceAdd, Nat.zero_add] at ha0
 have m0 := MemOk.start (fun _ => False) w0
 refine wp_seq_k (fun K0 hK0 => ?_)
 refine wp_region_lit ?_
 refine wpList_plain rfl (fun K hK => ?_)
 refine e_box ha0 m0 4 (cs := [_, _, _, _, _, _, _, _, _, _, _]) rfl rfl rfl ?_
 clear ha0 a0 m0; intro g1 a2 w2 ha2 m2 hB2 hg2
 clear hB2 hg2
 refine hK _ _ ?_; clear hK K
 refine st_y ha2 rfl (y_assign ha2 rfl) ?_
 clear ha2 a2; intro a3 ha3
 refine wpList_nil ?_
 refine hK0 _ _ ?_; clear hK0; try clear K0
 refine wp_seq_k (fun K1 hK1 => ?_)
 refine wp_region_lit ?_
 refine st_y ha3 rfl (y_fieldAddr ha3 (off := 10) rfl Try.underlying34 rfl (s := 0) (by kernel_rfl) rfl) ?_
 clear ha3 a3; intro a4 ha4
 refine st_y ha4 rfl (y_loadB1 ha4 m2 (i := 4) rfl rfl rfl Try.underlying32 rfl) ?_
 clear ha4 a4; intro a5 ha5
 refine st_y ha5 rfl (y_len ha5 rfl Try.underlying32) ?_
 clear ha5 a5; intro a6 ha6
 refine st_y ha6 rfl (y_assign ha6 rfl) ?_
 clear ha6 a6; intro a7 ha7
 refine wpList_nil ?_
 refine hK1 _ _ ?_; clear hK1; try clear K1
 refine wp_ret ?_
 try dsimp only [Exit.then, Exit.inBlock]
 refine (ret1 (fn := Try.f20) ha7 rfl rfl ?_)
 exact ⟨rfl, m2.below⟩
theorem place_any (kd vo bl sz pe to at0 ix : Int) (place : List Int) (pp pi : Option Addr) (cp ni ci : Nat) (w0 : World) (h0 : Rd (fun _ => True) w0 (.slice pp place.length cp) (.ns .i64 place)) (hn : place.length ≤ 1000000) (hb : 1 ≤ bl ∧ bl ≤ 256) (hp : 1 ≤ pe ∧ pe ≤ 256) :
   Calls Try.prog 36 #[.agg #[.int .i64 kd, .int .i64 vo, .int .i64 bl, .int .i64 sz, .int .i64 pe, .slice pp place.length cp, .int .i64 to, .int .i64 at0, .int .i64 ix, .slice pi ni ci]] w0 fun e w' => ∃ b : Bool, e = .returned (.bool b) ∧ (b = true ↔ PlaceOk bl pe place) ∧ Below w0.heap.size w0 w' := by
 refine enter (fn := Try.f36) Try.func36 rfl Try.ntmps36 rfl (fun a0 ha0 => ?_)
 simp only [List.zipIdx_cons, List.zipIdx_nil, List.map_cons, List.map_nil, Nat.reduceAdd, Nat.zero_add] at ha0
 have m0 := MemOk.start (fun _ => False) w0
 refine wp_seq_k (fun K0 hK0 => ?_)
 refine wp_region_lit ?_
 refine wpList_plain rfl (fun K hK => ?_)
 refine e_box ha0 m0 20 (cs := [_, _, _, _, _, _, _, _, _, _]) rfl rfl rfl ?_
 clear ha0 a0 m0; intro g1 a2 w2 ha2 m2 hB2 hg2
 clear hB2 hg2
 refine hK _ _ ?_; clear hK K
 refine st_y ha2 rfl (y_assign ha2 rfl) ?_
 clear ha2 a2; intro a3 ha3
 refine wpList_nil ?_
 refine hK0 _ _ ?_; clear hK0; try clear K0
 refine wp_seq_k (fun K1 hK1 => ?_)
 refine wp_seq_k (fun K2 hK2 => ?_)
 refine wp_region_lit ?_
 refine st_y ha3 rfl (y_fieldAddr ha3 (off := 5) rfl Try.underlying25 rfl (s := 0) (by kernel_rfl) rfl) ?_
 clear ha3 a3; intro a4 ha4
 refine st_y ha4 rfl (y_loadB1 ha4 m2 (i := 20) rfl rfl rfl Try.underlying22 rfl) ?_
 clear ha4 a4; intro a5 ha5
 refine st_y ha5 rfl (y_len ha5 rfl Try.underlying22) ?_
 clear ha5 a5; intro a6 ha6
 refine st_y ha6 rfl (y_move ha6 rfl) ?_
 clear ha6 a6; intro a7 ha7
 refine wpList_nil ?_
 refine hK2 _ _ ?_; clear hK2; try clear K2
 refine wp_block ?_
 refine wp_loop_ghost (fun g a w => ∃ (k B : Nat), k ≤ place.length ∧ g = place.length - k ∧ (∀ j, j < k → 1 ≤ place.getD j 0 ∧ place.getD j 0 ≤ 7) ∧ Has 29 [(1, .pointer (some ⟨B, 0, none⟩)), (6, .slice pp place.length cp), (7, .int .i64 place.length), (8, .int .i64 k)] a ∧ MemOk (cn w0) w0 [(9, .box B 25 [.int .i64 kd, .int .i64 vo, .int .i64 bl, .int .i64 sz, .int .i64 pe, .slice pp place.length cp, .int .i64 to, .int .i64 at0, .int .i64 ix, .slice pi ni ci])] w) (place.length) ?_ ?_
 · exact ⟨0, _, Nat.zero_le _, rfl, (fun j hj => by omega), ha7.only [1, 6, 7, 8], m2.ren [(9, 20)] (by decide)⟩
 ·
  clear ha7 m2
  rintro g a8 w8 ⟨k, B, hkl, hg, hall, ha8, m8⟩
  refine wp_seq_k (fun K3 hK3 => ?_)
  refine wp_region_lit ?_
  refine st_y ha8 rfl (y_lss ha8 rfl rfl) ?_
  clear ha8 a8; intro a9 ha9
  refine wpList_nil ?_
  refine hK3 _ _ ?_; clear hK3; try clear K3
  refine wp_seq_k (fun K4 hK4 => ?_)
  refine bool_cases ha9 (t := 9) rfl (fun hb10 ha10 => ?_) (fun hb10 ha10 => ?_)
  ·
   clear ha9
   try simp only [Q1x, Q2x, Q3x, Q4x, Q5x, Q6x, Q7x, Q8x, Q9x, Q0x, Qax, Qbx] at hb10
   have hk : k < place.length := by omega
   refine wp_cond_true (ha10.ev (x := .tmp 9) rfl) ?_
   refine wp_skip ?_
   refine hK4 _ _ ?_; clear hK4; try clear K4
   refine wp_seq_k (fun K5 hK5 => ?_)
   refine wp_block ?_
   refine wp_seq_k (fun K6 hK6 => ?_)
   refine wp_region_lit ?_
   obtain ⟨gx11, ox11, hp11, hl11, hrg11⟩ := h0.extN (k) hk
   cases hp11; clear hl11
   refine st_y ha10 rfl (y_idx ha10 rfl rfl Try.underlying22 sz3pr (k) rfl hk) ?_
   clear ha10 a9; intro a12 ha12
   refine st_y ha12 rfl (y_loadAt1 ha12 (hrg11 m8 rfl) (q := 0) rfl rfl rfl Try.underlying3 rfl) ?_
   clear ha12 a12; intro a13 ha13
   refine st_y ha13 rfl (y_assign ha13 rfl) ?_
   clear ha13 a13; intro a14 ha14
   refine wpList_nil ?_
   refine hK6 _ _ ?_; clear hK6; try clear K6
   refine wp_seq_k (fun K7 hK7 => ?_)
   refine wp_region_lit ?_
   refine st_y ha14 rfl (y_move ha14 rfl) ?_
   clear ha14 a14; intro a15 ha15
   refine wpList_plain rfl (fun K hK => ?_)
   refine e_call ha15 Try.func35 rfl rfl rfl rfl (within_any _ _ _ _) ?_
   rintro e w16 ⟨rfl, hb16⟩
   have m17 := m8.later hb16
   clear m8
   clear hb16
   refine ⟨_, rfl, fun a18 ha18 => ?_⟩; clear ha15 a15
   refine hK _ _ ?_; clear hK K
   refine st_y ha18 rfl (y_not ha18 rfl) ?_
   clear ha18 a18; intro a19 ha19
   refine wpList_nil ?_
   refine hK7 _ _ ?_; clear hK7; try clear K7
   refine bool_cases ha19 (t := 14) rfl (fun hb20 ha20 => ?_) (fun hb20 ha20 => ?_)
   ·
    clear ha19
    try simp only [Q1x, Q2x, Q3x, Q4x, Q5x, Q6x, Q7x, Q8x, Q9x, Q0x, Qax, Qbx] at hb20
    refine wp_cond_true (ha20.ev (x := .tmp 14) rfl) ?_
    refine wp_seq_k (fun K8 hK8 => ?_)
    have ha21 : Has 29 [(1, _), (6, _), (7, _), (8, _)] a19 := ha20.only [1, 6, 7, 8]; clear ha20
    refine wp_region_lit ?_
    refine st_y ha21 rfl (y_assign ha21 rfl) ?_
    clear ha21 a19; intro a22 ha22
    refine wpList_nil ?_
    refine hK8 _ _ ?_; clear hK8; try clear K8
    refine wp_ret ?_
    try dsimp only [Exit.then, Exit.inBlock]
    refine (ret1 (fn := Try.f36) ha22 rfl rfl ?_)
    exact ⟨false, rfl, iff_of_false (by simp) (fun h => by have h9 := h.1 _ (getD_mem hk); omega), m17.below⟩
   ·
    clear ha19
    try simp only [Q1x, Q2x, Q3x, Q4x, Q5x, Q6x, Q7x, Q8x, Q9x, Q0x, Qax, Qbx] at hb20
    refine wp_cond_false (ha20.ev (x := .tmp 14) rfl) ?_
    refine wp_skip ?_
    refine hK5 _ _ ?_; clear hK5; try clear K5
    have ha23 : Has 29 [(1, _), (6, _), (7, _), (8, _)] a19 := ha20.only [1, 6, 7, 8]; clear ha20
    refine wp_region_lit ?_
    refine st_y ha23 rfl (y_add ha23 rfl rfl (r := ((k + 1 : Nat) : Int)) (by rw [IntWalk.i64_in _ (by omega)]; omega)) ?_
    clear ha23 a19; intro a24 ha24
    refine st_y ha24 rfl (y_move ha24 rfl) ?_
    clear ha24 a24; intro a25 ha25
    refine wpList_nil ?_
    show ∃ n', n' < _ ∧ _
    exact ⟨place.length - (k + 1), by omega, k + 1, _, by omega, rfl, (all_snoc (P := fun x => 1 ≤ x ∧ x ≤ 7) hall (by omega)), ha25.only [1, 6, 7, 8], m17.only [9]⟩
  ·
   clear ha9
   try simp only [Q1x, Q2x, Q3x, Q4x, Q5x, Q6x, Q7x, Q8x, Q9x, Q0x, Qax, Qbx] at hb10
   obtain rfl : k = place.length := by omega
   refine wp_cond_false (ha10.ev (x := .tmp 9) rfl) ?_
   refine wp_exit ?_
   refine hK1 _ _ ?_; clear hK1; try clear K1
   refine wp_seq_k (fun K9 hK9 => ?_)
   have m26 : MemOk _ _ [(9, _)] _ := m8.only [9]; clear m8
   refine region_m 14 (B := [(9, _)]) (m26.to ⟨il, trivial⟩) m26 (by kernel_rfl) (fun w27 mB27 m27 => ?_); clear m26 mB27
   refine dyn 0 ha10 rfl rfl (m27.to ⟨il, trivial⟩) (fun W => y_fieldAddr ha10 (off := 5) rfl Try.underlying25 rfl (s := 0) (by kernel_rfl) rfl) ?_
   clear ha10 a9; intro a28 ha28
   refine dh 1 ha28 rfl rfl (m27.to ⟨il, trivial⟩) (fun W hW => y_loadB1 ha28 hW (i := 9) rfl rfl rfl Try.underlying22 rfl) ?_
   clear ha28 a28; intro a29 ha29
   refine dyn 2 ha29 rfl rfl (m27.to ⟨il, trivial⟩) (fun W => y_len ha29 rfl Try.underlying22) ?_
   clear ha29 a29; intro a30 ha30
   refine dyn 3 ha30 rfl rfl (m27.to ⟨il, trivial⟩) (fun W => y_fieldAddr ha30 (off := 2) rfl Try.underlying25 rfl (s := 0) (by kernel_rfl) rfl) ?_
   clear ha30 a30; intro a31 ha31
   refine dh 4 ha31 rfl rfl (m27.to ⟨il, trivial⟩) (fun W hW => y_loadB1 ha31 hW (i := 9) rfl rfl rfl Try.underlying3 rfl) ?_
   clear ha31 a31; intro a32 ha32
   refine dyn 5 ha32 rfl rfl (m27.to ⟨il, trivial⟩) (fun W => y_fieldAddr ha32 (off := 4) rfl Try.underlying25 rfl (s := 0) (by kernel_rfl) rfl) ?_
   clear ha32 a32; intro a33 ha33
   refine dh 6 ha33 rfl rfl (m27.to ⟨il, trivial⟩) (fun W hW => y_loadB1 ha33 hW (i := 9) rfl rfl rfl Try.underlying3 rfl) ?_
   clear ha33 a33; intro a34 ha34
   refine dyn 7 ha34 rfl rfl (m27.to ⟨il, trivial⟩) (fun W => y_add ha34 rfl rfl (r := bl + pe) (IntWalk.i64_in _ (by omega))) ?_
   clear ha34 a34; intro a35 ha35
   refine dyn 8 ha35 rfl rfl (m27.to ⟨il, trivial⟩) (fun W => y_sub ha35 rfl rfl (r := bl + pe - 1) (IntWalk.i64_in _ (by omega))) ?_
   clear ha35 a35; intro a36 ha36
   refine dyn 9 ha36 rfl rfl (m27.to ⟨il, trivial⟩) (fun W => y_fieldAddr ha36 (off := 4) rfl Try.underlying25 rfl (s := 0) (by kernel_rfl) rfl) ?_
   clear ha36 a36; intro a37 ha37
   refine dh 10 ha37 rfl rfl (m27.to ⟨il, trivial⟩) (fun W hW => y_loadB1 ha37 hW (i := 9) rfl rfl rfl Try.underlying3 rfl) ?_
   clear ha37 a37; intro a38 ha38
   refine dyn 11 ha38 rfl rfl (m27.to ⟨il, trivial⟩) (fun W => y_quo ha38 rfl rfl (by omega) (r := (bl + pe - 1) / pe) (by rw [Int.tdiv_eq_ediv_of_nonneg (by omega)]; exact IntWalk.i64_in _ (by have := Int.ediv_le_self pe (show 0 ≤ bl + pe - 1 by omega); have := Int.ediv_nonneg (show 0 ≤ bl + pe - 1 by omega) (show 0 ≤ pe by omega); omega))) ?_
   clear ha38 a38; intro a39 ha39
   refine dyn 12 ha39 rfl rfl (m27.to ⟨il, trivial⟩) (fun W => y_eql ha39 rfl rfl) ?_
   clear ha39 a39; intro a40 ha40
   refine dyn 13 ha40 rfl rfl (m27.to ⟨il, trivial⟩) (fun W => y_assign ha40 rfl) ?_
   clear ha40 a40; intro a41 ha41
   refine wpAnyE_done (by kernel_rfl) ?_ _
   refine hK9 _ _ ?_; clear hK9; try clear K9
   refine wp_ret ?_
   try dsimp only [Exit.then, Exit.inBlock]
   refine (ret1 (fn := Try.f36) ha41 rfl rfl ?_)
   exact ⟨_, rfl, by rw [decide_eq_true_eq]; exact ⟨fun h => ⟨fun g hg9 => all_mem (P := fun x => 1 ≤ x ∧ x ≤ 7) hall g hg9, h⟩, fun h => h.2⟩, m27.below⟩
theorem vnew_any (kd vo bl sz pe to at0 ix : Int) (place : List Int) (pp pi : Option Addr) (cp ni ci : Nat) (w0 : World) (h0 : Rd (fun _ => True) w0 (.slice pp place.length cp) (.ns .i64 place)) (hn : place.length ≤ 1000000) :
   Calls Try.prog 11 #[.agg #[.int .i64 kd, .int .i64 vo, .int .i64 bl, .int .i64 sz, .int .i64 pe, .slice pp place.length cp, .int .i64 to, .int .i64 at0, .int .i64 ix, .slice pi ni ci]] w0 fun e w' => (NewOk vo bl sz pe to place ∧ ∃ p c, e = .returned (.tuple #[.agg #[.int .i64 vo, .int .i64 bl, .int .i64 sz, .int .i64 pe, .slice p place.length c, .int .i64 to, .int .i64 0, .bool (decide (0 < to)), .int .i64 0, .slice none 0 0, .slice none 0 0], .int .i64 0]) ∧ Rd (New w0) w' (.slice p place.length c) (.ns .i64 place) ∧ Below w0.heap.size w0 w') ∨ (¬ NewOk vo bl sz pe to place ∧ e = .returned (.tuple #[.agg #[.int .i64 0, .int .i64 0, .int .i64 0, .int .i64 0, .slice none 0 0, .int .i64 0, .int .i64 0, .bool false, .int .i64 0, .slice none 0 0, .slice none 0 0], .int .i64 23]) ∧ Below w0.heap.size w0 w') := by
 refine enter (fn := Try.f11) Try.func11 rfl Try.ntmps11 rfl (fun a0 ha0 => ?_)
 simp only [List.zipIdx_cons, List.zipIdx_nil, List.map_cons, List.map_nil, Nat.reduceAdd, Nat.zero_add] at ha0
 have m0 := MemOk.start (fun _ => False) w0
 refine wp_seq_k (fun K0 hK0 => ?_)
 refine wp_region_lit ?_
 refine wpList_plain rfl (fun K hK => ?_)
 refine e_box ha0 m0 20 (cs := [_, _, _, _, _, _, _, _, _, _]) rfl rfl rfl ?_
 clear ha0 a0 m0; intro g1 a2 w2 ha2 m2 hB2 hg2
 clear hB2 hg2
 refine hK _ _ ?_; clear hK K
 refine wpList_plain rfl (fun K hK => ?_)
 refine e_alloc ha2 m2 21 zc34nw rfl ?_
 clear ha2 a2 m2; intro g3 a4 w4 ha4 m4 hB4 hg4
 clear hB4 hg4
 refine hK _ _ ?_; clear hK K
 refine st_y ha4 rfl (y_assign ha4 rfl) ?_
 clear ha4 a4; intro a5 ha5
 refine wpList_nil ?_
 refine hK0 _ _ ?_; clear hK0; try clear K0
 refine wp_seq_k (fun K1 hK1 => ?_)
 refine wp_region_lit ?_
 refine st_y ha5 rfl (y_fieldAddr ha5 (off := 1) rfl Try.underlying25 rfl (s := 0) (by kernel_rfl) rfl) ?_
 clear ha5 a5; intro a6 ha6
 refine st_y ha6 rfl (y_loadB1 ha6 m4 (i := 20) rfl rfl rfl Try.underlying3 rfl) ?_
 clear ha6 a6; intro a7 ha7
 refine wpList_plain rfl (fun K hK => ?_)
 refine e_call ha7 Try.func35 rfl rfl rfl rfl (within_any _ _ _ _) ?_
 rintro e w8 ⟨rfl, hb8⟩
 have m9 := m4.later hb8
 clear m4
 clear hb8
 refine ⟨_, rfl, fun a10 ha10 => ?_⟩; clear ha7 a7
 refine hK _ _ ?_; clear hK K
 refine st_y ha10 rfl (y_move ha10 rfl) ?_
 clear ha10 a10; intro a11 ha11
 refine bool_cases ha11 (t := 8) rfl (fun hb12 ha12 => ?_) (fun hb12 ha12 => ?_)
 ·
  clear ha11
  try simp only [Q1x, Q2x, Q3x, Q4x, Q5x, Q6x, Q7x, Q8x, Q9x, Q0x, Qax, Qbx] at hb12
  refine st_g ha12 rfl rfl rfl rfl (y_fieldAddr ha12 (off := 2) rfl Try.underlying25 rfl (s := 0) (by kernel_rfl) rfl) ?_
  clear ha12 a11; intro a13 ha13
  refine st_g ha13 rfl rfl rfl rfl (y_loadB1 ha13 m9 (i := 20) rfl rfl rfl Try.underlying3 rfl) ?_
  clear ha13 a13; intro a14 ha14
  refine st_ge ha14 rfl rfl rfl rfl (fun K hK => ?_)
  refine e_call ha14 Try.func35 rfl rfl rfl rfl (within_any _ _ _ _) ?_
  rintro e w15 ⟨rfl, hb15⟩
  have m16 := m9.later hb15
  clear m9
  clear hb15
  refine ⟨_, rfl, fun a17 ha17 => ?_⟩; clear ha14 a14
  refine hK _ _ ?_; clear hK K
  refine st_y ha17 rfl (y_pickT ha17 rfl rfl) ?_
  clear ha17 a17; intro a18 ha18
  refine st_y ha18 rfl (y_move ha18 rfl) ?_
  clear ha18 a18; intro a19 ha19
  refine bool_cases ha19 (t := 13) rfl (fun hb20 ha20 => ?_) (fun hb20 ha20 => ?_)
  ·
   clear ha19
   try simp only [Q1x, Q2x, Q3x, Q4x, Q5x, Q6x, Q7x, Q8x, Q9x, Q0x, Qax, Qbx] at hb20
   refine st_g ha20 rfl rfl rfl rfl (y_fieldAddr ha20 (off := 3) rfl Try.underlying25 rfl (s := 0) (by kernel_rfl) rfl) ?_
   clear ha20 a19; intro a21 ha21
   refine st_g ha21 rfl rfl rfl rfl (y_loadB1 ha21 m16 (i := 20) rfl rfl rfl Try.underlying3 rfl) ?_
   clear ha21 a21; intro a22 ha22
   refine st_ge ha22 rfl rfl rfl rfl (fun K hK => ?_)
   refine e_call ha22 Try.func35 rfl rfl rfl rfl (within_any _ _ _ _) ?_
   rintro e w23 ⟨rfl, hb23⟩
   have m24 := m16.later hb23
   clear m16
   clear hb23
   refine ⟨_, rfl, fun a25 ha25 => ?_⟩; clear ha22 a22
   refine hK _ _ ?_; clear hK K
   refine st_y ha25 rfl (y_pickT ha25 rfl rfl) ?_
   clear ha25 a25; intro a26 ha26
   refine st_y ha26 rfl (y_assign ha26 rfl) ?_
   clear ha26 a26; intro a27 ha27
   refine wpList_nil ?_
   refine hK1 _ _ ?_; clear hK1; try clear K1
   refine wp_seq_k (fun K2 hK2 => ?_)
   refine wp_seq_k (fun K3 hK3 => ?_)
   have ha28 : Has 57 [(1, _), (2, _), (3, _), (4, _)] a27 := ha27.only [1, 2, 3, 4]; clear ha27
   refine wp_region_lit ?_
   refine st_y ha28 rfl (y_move ha28 rfl) ?_
   clear ha28 a27; intro a29 ha29
   refine st_y ha29 rfl (y_not ha29 rfl) ?_
   clear ha29 a29; intro a30 ha30
   refine st_y ha30 rfl (y_move ha30 rfl) ?_
   clear ha30 a30; intro a31 ha31
   refine bool_cases ha31 (t := 20) rfl (fun hb32 ha32 => ?_) (fun hb32 ha32 => ?_)
   ·
    clear ha31
    try simp only [Q1x, Q2x, Q3x, Q4x, Q5x, Q6x, Q7x, Q8x, Q9x, Q0x, Qax, Qbx] at hb32
    refine st_skip ha32 rfl rfl rfl rfl ?_
    clear ha32 a31; intro a33 ha33
    refine st_skip ha33 rfl rfl rfl rfl ?_
    clear ha33 a33; intro a34 ha34
    refine st_skip ha34 rfl rfl rfl rfl ?_
    clear ha34 a34; intro a35 ha35
    refine st_skip ha35 rfl rfl rfl rfl ?_
    clear ha35 a35; intro a36 ha36
    refine st_skip ha36 rfl rfl rfl rfl ?_
    clear ha36 a36; intro a37 ha37
    refine st_skip ha37 rfl rfl rfl rfl ?_
    clear ha37 a37; intro a38 ha38
    refine st_y ha38 rfl (y_pickT ha38 rfl rfl) ?_
    clear ha38 a38; intro a39 ha39
    refine st_y ha39 rfl (y_move ha39 rfl) ?_
    clear ha39 a39; intro a40 ha40
    refine st_skip ha40 rfl rfl rfl rfl ?_
    clear ha40 a40; intro a41 ha41
    refine st_skip ha41 rfl rfl rfl rfl ?_
    clear ha41 a41; intro a42 ha42
    refine st_skip ha42 rfl rfl rfl rfl ?_
    clear ha42 a42; intro a43 ha43
    refine st_y ha43 rfl (y_pickT ha43 rfl rfl) ?_
    clear ha43 a43; intro a44 ha44
    refine st_y ha44 rfl (y_move ha44 rfl) ?_
    clear ha44 a44; intro a45 ha45
    refine st_skip ha45 rfl rfl rfl rfl ?_
    clear ha45 a45; intro a46 ha46
    refine st_skip ha46 rfl rfl rfl rfl ?_
    clear ha46 a46; intro a47 ha47
    refine st_skip ha47 rfl rfl rfl rfl ?_
    clear ha47 a47; intro a48 ha48
    refine st_skip ha48 rfl rfl rfl rfl ?_
    clear ha48 a48; intro a49 ha49
    refine st_y ha49 rfl (y_pickT ha49 rfl rfl) ?_
    clear ha49 a49; intro a50 ha50
    refine wpList_nil ?_
    refine hK3 _ _ ?_; clear hK3; try clear K3
    refine wp_cond_true (ha50.ev (x := .tmp 38) rfl) ?_
    refine wp_seq_k (fun K4 hK4 => ?_)
    have ha51 : Has 57 [(1, _), (2, _), (3, _), (34, _)] a50 := ha50.only [1, 2, 3, 34]; clear ha50
    refine wp_region_lit ?_
    refine st_y ha51 rfl (y_build ha51 rfl zc34nw fl34nw rfl (by dsimp only [setL, List.set] <;> rfl)) ?_
    clear ha51 a50; intro a52 ha52
    refine wpList_plain rfl (fun K hK => ?_)
    refine e_storeW ha52 m24 21 rfl rfl rfl rfl rfl sz34nw ?_
    clear m24; intro w53 m53 hB53
    clear hB53
    refine hK _ _ ?_; clear hK K
    refine st_y ha52 rfl (y_assign ha52 rfl) ?_
    clear ha52 a52; intro a54 ha54
    refine wpList_nil ?_
    refine hK4 _ _ ?_; clear hK4; try clear K4
    refine wp_ret ?_
    try dsimp only [Exit.then, Exit.inBlock]
    refine (retCT (fn := Try.f11) ha54 m53 (i := 21) rfl rfl rfl rfl Try.underlying34 rfl sz34nw ?_)
    exact .inr ⟨fun h => by unfold NewOk at h; obtain ⟨h1, h2, h3, h4, h5, h6, h7, h8, h9, h10, h11⟩ := h; first | omega | (have h12 := hpb.2 h9; simp_all), rfl, m53.below⟩
   ·
    clear ha31
    try simp only [Q1x, Q2x, Q3x, Q4x, Q5x, Q6x, Q7x, Q8x, Q9x, Q0x, Qax, Qbx] at hb32
    refine st_g ha32 rfl rfl rfl rfl (y_fieldAddr ha32 (off := 4) rfl Try.underlying25 rfl (s := 0) (by kernel_rfl) rfl) ?_
    clear ha32 a31; intro a55 ha55
    refine st_g ha55 rfl rfl rfl rfl (y_loadB1 ha55 m24 (i := 20) rfl rfl rfl Try.underlying3 rfl) ?_
    clear ha55 a55; intro a56 ha56
    refine st_g ha56 rfl rfl rfl rfl (y_fieldAddr ha56 (off := 2) rfl Try.underlying25 rfl (s := 0) (by kernel_rfl) rfl) ?_
    clear ha56 a56; intro a57 ha57
    refine st_g ha57 rfl rfl rfl rfl (y_loadB1 ha57 m24 (i := 20) rfl rfl rfl Try.underlying3 rfl) ?_
    clear ha57 a57; intro a58 ha58
    refine st_ge ha58 rfl rfl rfl rfl (fun K hK => ?_)
    refine e_call ha58 Try.func35 rfl rfl rfl rfl (within_any _ _ _ _) ?_
    rintro e w59 ⟨rfl, hb59⟩
    have m60 := m24.later hb59
    clear m24
    clear hb59
    refine ⟨_, rfl, fun a61 ha61 => ?_⟩; clear ha58 a58
    refine hK _ _ ?_; clear hK K
    refine st_g ha61 rfl rfl rfl rfl (y_not ha61 rfl) ?_
    clear ha61 a61; intro a62 ha62
    refine st_y ha62 rfl (y_pickF ha62 rfl rfl) ?_
    clear ha62 a62; intro a63 ha63
    refine st_y ha63 rfl (y_move ha63 rfl) ?_
    clear ha63 a63; intro a64 ha64
    refine bool_cases ha64 (t := 28) rfl (fun hb65 ha65 => ?_) (fun hb65 ha65 => ?_)
    ·
     clear ha64
     try simp only [Q1x, Q2x, Q3x, Q4x, Q5x, Q6x, Q7x, Q8x, Q9x, Q0x, Qax, Qbx] at hb65
     refine st_skip ha65 rfl rfl rfl rfl ?_
     clear ha65 a64; intro a66 ha66
     refine st_skip ha66 rfl rfl rfl rfl ?_
     clear ha66 a66; intro a67 ha67
     refine st_skip ha67 rfl rfl rfl rfl ?_
     clear ha67 a67; intro a68 ha68
     refine st_y ha68 rfl (y_pickT ha68 rfl rfl) ?_
     clear ha68 a68; intro a69 ha69
     refine st_y ha69 rfl (y_move ha69 rfl) ?_
     clear ha69 a69; intro a70 ha70
     refine st_skip ha70 rfl rfl rfl rfl ?_
     clear ha70 a70; intro a71 ha71
     refine st_skip ha71 rfl rfl rfl rfl ?_
     clear ha71 a71; intro a72 ha72
     refine st_skip ha72 rfl rfl rfl rfl ?_
     clear ha72 a72; intro a73 ha73
     refine st_skip ha73 rfl rfl rfl rfl ?_
     clear ha73 a73; intro a74 ha74
     refine st_y ha74 rfl (y_pickT ha74 rfl rfl) ?_
     clear ha74 a74; intro a75 ha75
     refine wpList_nil ?_
     refine hK3 _ _ ?_; clear hK3; try clear K3
     refine wp_cond_true (ha75.ev (x := .tmp 38) rfl) ?_
     refine wp_seq_k (fun K5 hK5 => ?_)
     have ha76 : Has 57 [(1, _), (2, _), (3, _), (34, _)] a75 := ha75.only [1, 2, 3, 34]; clear ha75
     refine wp_region_lit ?_
     refine st_y ha76 rfl (y_build ha76 rfl zc34nw fl34nw rfl (by dsimp only [setL, List.set] <;> rfl)) ?_
     clear ha76 a75; intro a77 ha77
     refine wpList_plain rfl (fun K hK => ?_)
     refine e_storeW ha77 m60 21 rfl rfl rfl rfl rfl sz34nw ?_
     clear m60; intro w78 m78 hB78
     clear hB78
     refine hK _ _ ?_; clear hK K
     refine st_y ha77 rfl (y_assign ha77 rfl) ?_
     clear ha77 a77; intro a79 ha79
     refine wpList_nil ?_
     refine hK5 _ _ ?_; clear hK5; try clear K5
     refine wp_ret ?_
     try dsimp only [Exit.then, Exit.inBlock]
     refine (retCT (fn := Try.f11) ha79 m78 (i := 21) rfl rfl rfl rfl Try.underlying34 rfl sz34nw ?_)
     exact .inr ⟨fun h => by unfold NewOk at h; obtain ⟨h1, h2, h3, h4, h5, h6, h7, h8, h9, h10, h11⟩ := h; first | omega | (have h12 := hpb.2 h9; simp_all), rfl, m78.below⟩
    ·
     clear ha64
     try simp only [Q1x, Q2x, Q3x, Q4x, Q5x, Q6x, Q7x, Q8x, Q9x, Q0x, Qax, Qbx] at hb65
     refine st_g ha65 rfl rfl rfl rfl (y_loadBR ha65 m60 (i := 20) rfl rfl Try.underlying25 rfl sz25nw (by simp) (by dsimp only [List.drop, List.take] <;> rfl)) ?_
     clear ha65 a64; intro a80 ha80
     refine st_ge ha80 rfl rfl rfl rfl (fun K hK => ?_)
     refine e_call ha80 Try.func36 rfl rfl rfl rfl (place_any _ _ _ _ _ _ _ _ _ _ _ _ _ _ _ (h0.now' m60 rfl).any hn (by omega) (by omega)) ?_
     rintro e w81 ⟨pb, rfl, hpb, hb81⟩
     have m82 := m60.later hb81
     clear m60
     clear hb81
     refine ⟨_, rfl, fun a83 ha83 => ?_⟩; clear ha80 a80
     refine hK _ _ ?_; clear hK K
     refine st_g ha83 rfl rfl rfl rfl (y_not ha83 rfl) ?_
     clear ha83 a83; intro a84 ha84
     refine st_y ha84 rfl (y_pickF ha84 rfl rfl) ?_
     clear ha84 a84; intro a85 ha85
     refine st_y ha85 rfl (y_move ha85 rfl) ?_
     clear ha85 a85; intro a86 ha86
     refine bool_cases ha86 (t := 33) rfl (fun hb87 ha87 => ?_) (fun hb87 ha87 => ?_)
     ·
      clear ha86
      try simp only [Q1x, Q2x, Q3x, Q4x, Q5x, Q6x, Q7x, Q8x, Q9x, Q0x, Qax, Qbx] at hb87
      refine st_skip ha87 rfl rfl rfl rfl ?_
      clear ha87 a86; intro a88 ha88
      refine st_skip ha88 rfl rfl rfl rfl ?_
      clear ha88 a88; intro a89 ha89
      refine st_skip ha89 rfl rfl rfl rfl ?_
      clear ha89 a89; intro a90 ha90
      refine st_skip ha90 rfl rfl rfl rfl ?_
      clear ha90 a90; intro a91 ha91
      refine st_y ha91 rfl (y_pickT ha91 rfl rfl) ?_
      clear ha91 a91; intro a92 ha92
      refine wpList_nil ?_
      refine hK3 _ _ ?_; clear hK3; try clear K3
      refine wp_cond_true (ha92.ev (x := .tmp 38) rfl) ?_
      refine wp_seq_k (fun K6 hK6 => ?_)
      have ha93 : Has 57 [(1, _), (2, _), (3, _), (34, _)] a92 := ha92.only [1, 2, 3, 34]; clear ha92
      refine wp_region_lit ?_
      refine st_y ha93 rfl (y_build ha93 rfl zc34nw fl34nw rfl (by dsimp only [setL, List.set] <;> rfl)) ?_
      clear ha93 a92; intro a94 ha94
      refine wpList_plain rfl (fun K hK => ?_)
      refine e_storeW ha94 m82 21 rfl rfl rfl rfl rfl sz34nw ?_
      clear m82; intro w95 m95 hB95
      clear hB95
      refine hK _ _ ?_; clear hK K
      refine st_y ha94 rfl (y_assign ha94 rfl) ?_
      clear ha94 a94; intro a96 ha96
      refine wpList_nil ?_
      refine hK6 _ _ ?_; clear hK6; try clear K6
      refine wp_ret ?_
      try dsimp only [Exit.then, Exit.inBlock]
      refine (retCT (fn := Try.f11) ha96 m95 (i := 21) rfl rfl rfl rfl Try.underlying34 rfl sz34nw ?_)
      exact .inr ⟨fun h => by unfold NewOk at h; obtain ⟨h1, h2, h3, h4, h5, h6, h7, h8, h9, h10, h11⟩ := h; first | omega | (have h12 := hpb.2 h9; simp_all), rfl, m95.below⟩
     ·
      clear ha86
      try simp only [Q1x, Q2x, Q3x, Q4x, Q5x, Q6x, Q7x, Q8x, Q9x, Q0x, Qax, Qbx] at hb87
      refine st_g ha87 rfl rfl rfl rfl (y_fieldAddr ha87 (off := 6) rfl Try.underlying25 rfl (s := 0) (by kernel_rfl) rfl) ?_
      clear ha87 a86; intro a97 ha97
      refine st_g ha97 rfl rfl rfl rfl (y_loadB1 ha97 m82 (i := 20) rfl rfl rfl Try.underlying3 rfl) ?_
      clear ha97 a97; intro a98 ha98
      refine st_ge ha98 rfl rfl rfl rfl (fun K hK => ?_)
      refine e_call ha98 Try.func35 rfl rfl rfl rfl (within_any _ _ _ _) ?_
      rintro e w99 ⟨rfl, hb99⟩
      have m100 := m82.later hb99
      clear m82
      clear hb99
      refine ⟨_, rfl, fun a101 ha101 => ?_⟩; clear ha98 a98
      refine hK _ _ ?_; clear hK K
      refine st_g ha101 rfl rfl rfl rfl (y_not ha101 rfl) ?_
      clear ha101 a101; intro a102 ha102
      refine st_y ha102 rfl (y_pickF ha102 rfl rfl) ?_
      clear ha102 a102; intro a103 ha103
      refine wpList_nil ?_
      refine hK3 _ _ ?_; clear hK3; try clear K3
      refine bool_cases ha103 (t := 38) rfl (fun hb104 ha104 => ?_) (fun hb104 ha104 => ?_)
      ·
       clear ha103
       try simp only [Q1x, Q2x, Q3x, Q4x, Q5x, Q6x, Q7x, Q8x, Q9x, Q0x, Qax, Qbx] at hb104
       refine wp_cond_true (ha104.ev (x := .tmp 38) rfl) ?_
       refine wp_seq_k (fun K7 hK7 => ?_)
       have ha105 : Has 57 [(1, _), (2, _), (3, _), (34, _)] a103 := ha104.only [1, 2, 3, 34]; clear ha104
       refine wp_region_lit ?_
       refine st_y ha105 rfl (y_build ha105 rfl zc34nw fl34nw rfl (by dsimp only [setL, List.set] <;> rfl)) ?_
       clear ha105 a103; intro a106 ha106
       refine wpList_plain rfl (fun K hK => ?_)
       refine e_storeW ha106 m100 21 rfl rfl rfl rfl rfl sz34nw ?_
       clear m100; intro w107 m107 hB107
       clear hB107
       refine hK _ _ ?_; clear hK K
       refine st_y ha106 rfl (y_assign ha106 rfl) ?_
       clear ha106 a106; intro a108 ha108
       refine wpList_nil ?_
       refine hK7 _ _ ?_; clear hK7; try clear K7
       refine wp_ret ?_
       try dsimp only [Exit.then, Exit.inBlock]
       refine (retCT (fn := Try.f11) ha108 m107 (i := 21) rfl rfl rfl rfl Try.underlying34 rfl sz34nw ?_)
       exact .inr ⟨fun h => by unfold NewOk at h; obtain ⟨h1, h2, h3, h4, h5, h6, h7, h8, h9, h10, h11⟩ := h; first | omega | (have h12 := hpb.2 h9; simp_all), rfl, m107.below⟩
      ·
       clear ha103
       try simp only [Q1x, Q2x, Q3x, Q4x, Q5x, Q6x, Q7x, Q8x, Q9x, Q0x, Qax, Qbx] at hb104
       refine wp_cond_false (ha104.ev (x := .tmp 38) rfl) ?_
       refine wp_skip ?_
       refine hK2 _ _ ?_; clear hK2; try clear K2
       refine wp_seq_k (fun K8 hK8 => ?_)
       have ha109 : Has 57 [(1, _), (2, _), (3, _), (34, _)] a103 := ha104.only [1, 2, 3, 34]; clear ha104
       have m110 : MemOk _ _ [(20, _), (21, _)] _ := m100.only [20, 21]; clear m100
       refine region_m 19 (B := [(20, _)]) (m110.to ⟨il, trivial⟩) m110 (by kernel_rfl) (fun w111 mB111 m111 => ?_); clear m110 mB111
       refine dyn 0 ha109 rfl rfl (m111.to ⟨il, trivial⟩) (fun W => y_fieldAddr ha109 (off := 1) rfl Try.underlying25 rfl (s := 0) (by kernel_rfl) rfl) ?_
       clear ha109 a103; intro a112 ha112
       refine dh 1 ha112 rfl rfl (m111.to ⟨il, trivial⟩) (fun W hW => y_loadB1 ha112 hW (i := 20) rfl rfl rfl Try.underlying3 rfl) ?_
       clear ha112 a112; intro a113 ha113
       refine dyn 2 ha113 rfl rfl (m111.to ⟨il, trivial⟩) (fun W => y_fieldAddr ha113 (off := 2) rfl Try.underlying25 rfl (s := 0) (by kernel_rfl) rfl) ?_
       clear ha113 a113; intro a114 ha114
       refine dh 3 ha114 rfl rfl (m111.to ⟨il, trivial⟩) (fun W hW => y_loadB1 ha114 hW (i := 20) rfl rfl rfl Try.underlying3 rfl) ?_
       clear ha114 a114; intro a115 ha115
       refine dyn 4 ha115 rfl rfl (m111.to ⟨il, trivial⟩) (fun W => y_fieldAddr ha115 (off := 3) rfl Try.underlying25 rfl (s := 0) (by kernel_rfl) rfl) ?_
       clear ha115 a115; intro a116 ha116
       refine dh 5 ha116 rfl rfl (m111.to ⟨il, trivial⟩) (fun W hW => y_loadB1 ha116 hW (i := 20) rfl rfl rfl Try.underlying3 rfl) ?_
       clear ha116 a116; intro a117 ha117
       refine dyn 6 ha117 rfl rfl (m111.to ⟨il, trivial⟩) (fun W => y_fieldAddr ha117 (off := 4) rfl Try.underlying25 rfl (s := 0) (by kernel_rfl) rfl) ?_
       clear ha117 a117; intro a118 ha118
       refine dh 7 ha118 rfl rfl (m111.to ⟨il, trivial⟩) (fun W hW => y_loadB1 ha118 hW (i := 20) rfl rfl rfl Try.underlying3 rfl) ?_
       clear ha118 a118; intro a119 ha119
       refine dyn 8 ha119 rfl rfl (m111.to ⟨il, trivial⟩) (fun W => y_fieldAddr ha119 (off := 5) rfl Try.underlying25 rfl (s := 0) (by kernel_rfl) rfl) ?_
       clear ha119 a119; intro a120 ha120
       refine dh 9 ha120 rfl rfl (m111.to ⟨il, trivial⟩) (fun W hW => y_loadB1 ha120 hW (i := 20) rfl rfl rfl Try.underlying22 rfl) ?_
       clear ha120 a120; intro a121 ha121
       refine dyn 11 ha121 rfl rfl (m111.to ⟨il, trivial⟩) (fun W => y_fieldAddr ha121 (off := 6) rfl Try.underlying25 rfl (s := 0) (by kernel_rfl) rfl) ?_
       clear ha121 a121; intro a122 ha122
       refine dh 12 ha122 rfl rfl (m111.to ⟨il, trivial⟩) (fun W hW => y_loadB1 ha122 hW (i := 20) rfl rfl rfl Try.underlying3 rfl) ?_
       clear ha122 a122; intro a123 ha123
       refine dyn 13 ha123 rfl rfl (m111.to ⟨il, trivial⟩) (fun W => y_fieldAddr ha123 (off := 6) rfl Try.underlying25 rfl (s := 0) (by kernel_rfl) rfl) ?_
       clear ha123 a123; intro a124 ha124
       refine dh 14 ha124 rfl rfl (m111.to ⟨il, trivial⟩) (fun W hW => y_loadB1 ha124 hW (i := 20) rfl rfl rfl Try.underlying3 rfl) ?_
       clear ha124 a124; intro a125 ha125
       refine dyn 15 ha125 rfl rfl (m111.to ⟨il, trivial⟩) (fun W => y_gtr ha125 rfl rfl) ?_
       clear ha125 a125; intro a126 ha126
       refine stepE_only 10 rfl (by kernel_rfl) rfl (fun K hK => ?_)
       refine e_call ha126 Try.func37 rfl rfl rfl rfl (plainI_any place _ _ _ ((h0.now' m111 rfl).any) hn) ?_
       rintro e w127 ⟨p127, c127, rfl, hd127, hb127⟩
       have m128 := m111.callF 22 rfl hb127 hd127
       clear m111
       clear hb127 hd127
       refine ⟨_, rfl, fun a129 ha129 => ?_⟩; clear ha126 a126
       refine hK _ _ (m128.to ⟨il, trivial⟩) ?_; clear hK K
       refine dyn 16 ha129 rfl rfl (m128.to ⟨il, trivial⟩) (fun W => y_build ha129 rfl zc34nw fl34nw rfl (by dsimp only [setL, List.set] <;> rfl)) ?_
       clear ha129 a129; intro a130 ha130
       refine stepE_only 17 rfl (by kernel_rfl) rfl (fun K hK => ?_)
       refine e_storeW ha130 m128 21 rfl rfl rfl rfl rfl sz34nw ?_
       clear m128; intro w131 m131 hB131
       clear hB131
       refine hK _ _ (m131.to ⟨il, trivial⟩) ?_; clear hK K
       refine dyn 18 ha130 rfl rfl (m131.to ⟨il, trivial⟩) (fun W => y_assign ha130 rfl) ?_
       clear ha130 a130; intro a132 ha132
       refine wpAnyE_done (by kernel_rfl) ?_ _
       refine hK8 _ _ ?_; clear hK8; try clear K8
       refine wp_ret ?_
       try dsimp only [Exit.then, Exit.inBlock]
       refine (retCT (fn := Try.f11) ha132 m131 (i := 21) rfl rfl rfl rfl Try.underlying34 rfl sz34nw ?_)
       exact .inl ⟨by unfold NewOk; refine ⟨by omega, by omega, by omega, by omega, by omega, by omega, by omega, by omega, hpb.1 (by simp_all), by omega, by omega⟩, _, _, rfl, m131.outF (i := 22) rfl, m131.below⟩
  ·
   clear ha19
   try simp only [Q1x, Q2x, Q3x, Q4x, Q5x, Q6x, Q7x, Q8x, Q9x, Q0x, Qax, Qbx] at hb20
   refine st_skip ha20 rfl rfl rfl rfl ?_
   clear ha20 a19; intro a133 ha133
   refine st_skip ha133 rfl rfl rfl rfl ?_
   clear ha133 a133; intro a134 ha134
   refine st_skip ha134 rfl rfl rfl rfl ?_
   clear ha134 a134; intro a135 ha135
   refine st_y ha135 rfl (y_pickF ha135 rfl rfl) ?_
   clear ha135 a135; intro a136 ha136
   refine st_y ha136 rfl (y_assign ha136 rfl) ?_
   clear ha136 a136; intro a137 ha137
   refine wpList_nil ?_
   refine hK1 _ _ ?_; clear hK1; try clear K1
   refine wp_seq_k (fun K9 hK9 => ?_)
   refine wp_seq_k (fun K10 hK10 => ?_)
   have ha138 : Has 57 [(1, _), (2, _), (3, _), (4, _)] a137 := ha137.only [1, 2, 3, 4]; clear ha137
   refine wp_region_lit ?_
   refine st_y ha138 rfl (y_move ha138 rfl) ?_
   clear ha138 a137; intro a139 ha139
   refine st_y ha139 rfl (y_not ha139 rfl) ?_
   clear ha139 a139; intro a140 ha140
   refine st_y ha140 rfl (y_move ha140 rfl) ?_
   clear ha140 a140; intro a141 ha141
   refine st_skip ha141 rfl rfl rfl rfl ?_
   clear ha141 a141; intro a142 ha142
   refine st_skip ha142 rfl rfl rfl rfl ?_
   clear ha142 a142; intro a143 ha143
   refine st_skip ha143 rfl rfl rfl rfl ?_
   clear ha143 a143; intro a144 ha144
   refine st_skip ha144 rfl rfl rfl rfl ?_
   clear ha144 a144; intro a145 ha145
   refine st_skip ha145 rfl rfl rfl rfl ?_
   clear ha145 a145; intro a146 ha146
   refine st_skip ha146 rfl rfl rfl rfl ?_
   clear ha146 a146; intro a147 ha147
   refine st_y ha147 rfl (y_pickT ha147 rfl rfl) ?_
   clear ha147 a147; intro a148 ha148
   refine st_y ha148 rfl (y_move ha148 rfl) ?_
   clear ha148 a148; intro a149 ha149
   refine st_skip ha149 rfl rfl rfl rfl ?_
   clear ha149 a149; intro a150 ha150
   refine st_skip ha150 rfl rfl rfl rfl ?_
   clear ha150 a150; intro a151 ha151
   refine st_skip ha151 rfl rfl rfl rfl ?_
   clear ha151 a151; intro a152 ha152
   refine st_y ha152 rfl (y_pickT ha152 rfl rfl) ?_
   clear ha152 a152; intro a153 ha153
   refine st_y ha153 rfl (y_move ha153 rfl) ?_
   clear ha153 a153; intro a154 ha154
   refine st_skip ha154 rfl rfl rfl rfl ?_
   clear ha154 a154; intro a155 ha155
   refine st_skip ha155 rfl rfl rfl rfl ?_
   clear ha155 a155; intro a156 ha156
   refine st_skip ha156 rfl rfl rfl rfl ?_
   clear ha156 a156; intro a157 ha157
   refine st_skip ha157 rfl rfl rfl rfl ?_
   clear ha157 a157; intro a158 ha158
   refine st_y ha158 rfl (y_pickT ha158 rfl rfl) ?_
   clear ha158 a158; intro a159 ha159
   refine wpList_nil ?_
   refine hK10 _ _ ?_; clear hK10; try clear K10
   refine wp_cond_true (ha159.ev (x := .tmp 38) rfl) ?_
   refine wp_seq_k (fun K11 hK11 => ?_)
   have ha160 : Has 57 [(1, _), (2, _), (3, _), (34, _)] a159 := ha159.only [1, 2, 3, 34]; clear ha159
   refine wp_region_lit ?_
   refine st_y ha160 rfl (y_build ha160 rfl zc34nw fl34nw rfl (by dsimp only [setL, List.set] <;> rfl)) ?_
   clear ha160 a159; intro a161 ha161
   refine wpList_plain rfl (fun K hK => ?_)
   refine e_storeW ha161 m16 21 rfl rfl rfl rfl rfl sz34nw ?_
   clear m16; intro w162 m162 hB162
   clear hB162
   refine hK _ _ ?_; clear hK K
   refine st_y ha161 rfl (y_assign ha161 rfl) ?_
   clear ha161 a161; intro a163 ha163
   refine wpList_nil ?_
   refine hK11 _ _ ?_; clear hK11; try clear K11
   refine wp_ret ?_
   try dsimp only [Exit.then, Exit.inBlock]
   refine (retCT (fn := Try.f11) ha163 m162 (i := 21) rfl rfl rfl rfl Try.underlying34 rfl sz34nw ?_)
   exact .inr ⟨fun h => by unfold NewOk at h; obtain ⟨h1, h2, h3, h4, h5, h6, h7, h8, h9, h10, h11⟩ := h; first | omega | (have h12 := hpb.2 h9; simp_all), rfl, m162.below⟩
 ·
  clear ha11
  try simp only [Q1x, Q2x, Q3x, Q4x, Q5x, Q6x, Q7x, Q8x, Q9x, Q0x, Qax, Qbx] at hb12
  refine st_skip ha12 rfl rfl rfl rfl ?_
  clear ha12 a11; intro a164 ha164
  refine st_skip ha164 rfl rfl rfl rfl ?_
  clear ha164 a164; intro a165 ha165
  refine st_skip ha165 rfl rfl rfl rfl ?_
  clear ha165 a165; intro a166 ha166
  refine st_y ha166 rfl (y_pickF ha166 rfl rfl) ?_
  clear ha166 a166; intro a167 ha167
  refine st_y ha167 rfl (y_move ha167 rfl) ?_
  clear ha167 a167; intro a168 ha168
  refine st_skip ha168 rfl rfl rfl rfl ?_
  clear ha168 a168; intro a169 ha169
  refine st_skip ha169 rfl rfl rfl rfl ?_
  clear ha169 a169; intro a170 ha170
  refine st_skip ha170 rfl rfl rfl rfl ?_
  clear ha170 a170; intro a171 ha171
  refine st_y ha171 rfl (y_pickF ha171 rfl rfl) ?_
  clear ha171 a171; intro a172 ha172
  refine st_y ha172 rfl (y_assign ha172 rfl) ?_
  clear ha172 a172; intro a173 ha173
  refine wpList_nil ?_
  refine hK1 _ _ ?_; clear hK1; try clear K1
  refine wp_seq_k (fun K12 hK12 => ?_)
  refine wp_seq_k (fun K13 hK13 => ?_)
  have ha174 : Has 57 [(1, _), (2, _), (3, _), (4, _)] a173 := ha173.only [1, 2, 3, 4]; clear ha173
  refine wp_region_lit ?_
  refine st_y ha174 rfl (y_move ha174 rfl) ?_
  clear ha174 a173; intro a175 ha175
  refine st_y ha175 rfl (y_not ha175 rfl) ?_
  clear ha175 a175; intro a176 ha176
  refine st_y ha176 rfl (y_move ha176 rfl) ?_
  clear ha176 a176; intro a177 ha177
  refine st_skip ha177 rfl rfl rfl rfl ?_
  clear ha177 a177; intro a178 ha178
  refine st_skip ha178 rfl rfl rfl rfl ?_
  clear ha178 a178; intro a179 ha179
  refine st_skip ha179 rfl rfl rfl rfl ?_
  clear ha179 a179; intro a180 ha180
  refine st_skip ha180 rfl rfl rfl rfl ?_
  clear ha180 a180; intro a181 ha181
  refine st_skip ha181 rfl rfl rfl rfl ?_
  clear ha181 a181; intro a182 ha182
  refine st_skip ha182 rfl rfl rfl rfl ?_
  clear ha182 a182; intro a183 ha183
  refine st_y ha183 rfl (y_pickT ha183 rfl rfl) ?_
  clear ha183 a183; intro a184 ha184
  refine st_y ha184 rfl (y_move ha184 rfl) ?_
  clear ha184 a184; intro a185 ha185
  refine st_skip ha185 rfl rfl rfl rfl ?_
  clear ha185 a185; intro a186 ha186
  refine st_skip ha186 rfl rfl rfl rfl ?_
  clear ha186 a186; intro a187 ha187
  refine st_skip ha187 rfl rfl rfl rfl ?_
  clear ha187 a187; intro a188 ha188
  refine st_y ha188 rfl (y_pickT ha188 rfl rfl) ?_
  clear ha188 a188; intro a189 ha189
  refine st_y ha189 rfl (y_move ha189 rfl) ?_
  clear ha189 a189; intro a190 ha190
  refine st_skip ha190 rfl rfl rfl rfl ?_
  clear ha190 a190; intro a191 ha191
  refine st_skip ha191 rfl rfl rfl rfl ?_
  clear ha191 a191; intro a192 ha192
  refine st_skip ha192 rfl rfl rfl rfl ?_
  clear ha192 a192; intro a193 ha193
  refine st_skip ha193 rfl rfl rfl rfl ?_
  clear ha193 a193; intro a194 ha194
  refine st_y ha194 rfl (y_pickT ha194 rfl rfl) ?_
  clear ha194 a194; intro a195 ha195
  refine wpList_nil ?_
  refine hK13 _ _ ?_; clear hK13; try clear K13
  refine wp_cond_true (ha195.ev (x := .tmp 38) rfl) ?_
  refine wp_seq_k (fun K14 hK14 => ?_)
  have ha196 : Has 57 [(1, _), (2, _), (3, _), (34, _)] a195 := ha195.only [1, 2, 3, 34]; clear ha195
  refine wp_region_lit ?_
  refine st_y ha196 rfl (y_build ha196 rfl zc34nw fl34nw rfl (by dsimp only [setL, List.set] <;> rfl)) ?_
  clear ha196 a195; intro a197 ha197
  refine wpList_plain rfl (fun K hK => ?_)
  refine e_storeW ha197 m9 21 rfl rfl rfl rfl rfl sz34nw ?_
  clear m9; intro w198 m198 hB198
  clear hB198
  refine hK _ _ ?_; clear hK K
  refine st_y ha197 rfl (y_assign ha197 rfl) ?_
  clear ha197 a197; intro a199 ha199
  refine wpList_nil ?_
  refine hK14 _ _ ?_; clear hK14; try clear K14
  refine wp_ret ?_
  try dsimp only [Exit.then, Exit.inBlock]
  refine (retCT (fn := Try.f11) ha199 m198 (i := 21) rfl rfl rfl rfl Try.underlying34 rfl sz34nw ?_)
  exact .inr ⟨fun h => by unfold NewOk at h; obtain ⟨h1, h2, h3, h4, h5, h6, h7, h8, h9, h10, h11⟩ := h; first | omega | (have h12 := hpb.2 h9; simp_all), rfl, m198.below⟩
end Go.Proofs.Ytocfbocdnklllaa.K
