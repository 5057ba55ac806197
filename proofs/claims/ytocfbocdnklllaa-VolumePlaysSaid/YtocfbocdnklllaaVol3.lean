/- volume: which items may be. -/
import Derived.Test.YtocfbocdnklllaaAb17
import Derived.Test.YtocfbocdnklllaaVol2
namespace Go.Proofs.Ytocfbocdnklllaa.K
open Go.ChangeShapes Go.WideShapes Go.ChangeAt Go.RowKit
set_option linter.unusedVariables false
set_option linter.unusedSimpArgs false


theorem sz67ix : (Try.prog.info? 67).map (·.size) = some 2 := by kernel_rfl

theorem sz67ir : (Try.prog.info? 67).map (·.size) = some 2 := by kernel_rfl
theorem zc67ir : ((Try.prog.info? 67).bind (·.zero)).map (·.cells.toList) = some [.int .i64 0, .slice none 0 0] := by kernel_rfl


abbrev i0 : Int × List Int := (0, [])
theorem getI {l : List (Int × List Int)} {k : Nat} {e : Int × List Int} (h : l[k]? = some e) : l.getD k i0 = e := by rw [List.getD, h]; rfl
theorem ne_snoc {l : List (Int × List Int)} {k : Nat} {xb yb : Int} {yd : List Int} (h : ∀ j, j < k → (l.getD j i0).1 ≠ xb) (hes : l[k]? = some (yb, yd)) (hne : ¬ yb = xb) : ∀ j, j < k + 1 → (l.getD j i0).1 ≠ xb := fun j hj => by
 rcases Nat.lt_or_ge j k with h1 | h1
 · exact h j h1
 · obtain rfl : j = k := by omega
   rw [getI hes]; exact hne
def ItPre (bl sz : Int) (l : List (Int × List Int)) (k : Nat) : Prop := ∀ j, j < k → 0 ≤ (l.getD j i0).1 ∧ (l.getD j i0).1 < bl ∧ ((l.getD j i0).2.length : Int) = sz ∧ ¬ ∃ e ∈ l.take j, e.1 = (l.getD j i0).1
def ItemsR (bl sz : Int) (l : List (Int × List Int)) : Prop := 1 ≤ l.length ∧ l.length ≤ 8 ∧ ItPre bl sz l l.length
theorem itpre_snoc {bl sz : Int} {l : List (Int × List Int)} {k : Nat} {yb : Int} {yd : List Int} (h : ItPre bl sz l k) (hes : l[k]? = some (yb, yd)) (hb : 0 ≤ yb ∧ yb < bl) (hs : (yd.length : Int) = sz) (hn : ¬ ∃ e ∈ l.take k, e.1 = yb) : ItPre bl sz l (k + 1) := fun j hj => by
 rcases Nat.lt_or_ge j k with h1 | h1
 · exact h j h1
 · obtain rfl : j = k := by omega
   rw [getI hes]; exact ⟨hb.1, hb.2, hs, hn⟩
set_option maxRecDepth 100000
set_option maxHeartbeats 4000000
theorem eqblk_fr (X : Cx) (B : Nat) (xb yb : Int) (px py : Option Addr) (nx cx ny cy : Nat) (w0 : World) (m0 : MemOk X w0 [(2, .box B 67 [.int .i64 xb, .slice px nx cx])] w0) :
   Calls Try.prog 73 #[.agg #[.int .i64 yb, .slice py ny cy], .pointer (some ⟨B, 0, none⟩)] w0 fun e w' => e = .returned (.bool (decide (yb = xb))) ∧ MemOk X w0 [(2, .box B 67 [.int .i64 xb, .slice px nx cx])] w' := by
 refine enter (fn := Try.f73) Try.func73 rfl Try.ntmps73 rfl (fun a0 ha0 => ?_)
 simp only [List.zipIdx_cons, List.zipIdx_nil, List.map_cons, List.map_nil, Nat.reduceAdd, Nat.zero_add] at ha0
 refine wp_seq_k (fun K0 hK0 => ?_)
 refine wp_region_lit ?_
 refine wpList_plain rfl (fun K hK => ?_)
 refine e_box ha0 m0 20 (cs := [_, _]) rfl rfl rfl ?_
 clear ha0 a0 m0; intro g1 a2 w2 ha2 m2 hB2 hg2
 clear hB2 hg2
 refine hK _ _ ?_; clear hK K
 refine st_y ha2 rfl (y_assign ha2 rfl) ?_
 clear ha2 a2; intro a3 ha3
 refine wpList_nil ?_
 refine hK0 _ _ ?_; clear hK0; try clear K0
 refine wp_seq_k (fun K1 hK1 => ?_)
 refine wp_region_lit ?_
 refine st_y ha3 rfl (y_fieldAddr ha3 (off := 0) rfl Try.underlying67 rfl (s := 0) (by kernel_rfl) rfl) ?_
 clear ha3 a3; intro a4 ha4
 refine st_y ha4 rfl (y_loadB1 ha4 m2 (i := 20) rfl rfl rfl Try.underlying3 rfl) ?_
 clear ha4 a4; intro a5 ha5
 refine st_y ha5 rfl (y_fieldAddr ha5 (off := 0) rfl Try.underlying67 rfl (s := 0) (by kernel_rfl) rfl) ?_
 clear ha5 a5; intro a6 ha6
 refine st_y ha6 rfl (y_loadB1 ha6 m2 (i := 2) rfl rfl rfl Try.underlying3 rfl) ?_
 clear ha6 a6; intro a7 ha7
 refine st_y ha7 rfl (y_eql ha7 rfl rfl) ?_
 clear ha7 a7; intro a8 ha8
 refine st_y ha8 rfl (y_assign ha8 rfl) ?_
 clear ha8 a8; intro a9 ha9
 refine wpList_nil ?_
 refine hK1 _ _ ?_; clear hK1; try clear K1
 refine wp_ret ?_
 try dsimp only [Exit.then, Exit.inBlock]
 refine (ret1 (fn := Try.f73) ha9 rfl rfl ?_)
 exact ⟨rfl, m2.only [2]⟩
theorem ixfunc_fr (X : Cx) (B : Nat) (l : List (Int × List Int)) (xb : Int) (p px : Option Addr) (nn c nx cx : Nat) (w0 : World) (hl : l.length ≤ 1000000) (hnn : nn = l.length) (m0 : MemOk X w0 [(1, .dat (.slice p nn c) (.l 2 (l.map itD))), (2, .box B 67 [.int .i64 xb, .slice px nx cx])] w0) :
   Calls Try.prog 89 #[.slice p nn c, .func (.func 73) #[] #[.pointer (some ⟨B, 0, none⟩)]] w0 fun e w' => ∃ q : Int, e = .returned (.int .i64 q) ∧ (0 ≤ q ↔ ∃ e ∈ l, e.1 = xb) ∧ MemOk X w0 [(1, .dat (.slice p nn c) (.l 2 (l.map itD))), (2, .box B 67 [.int .i64 xb, .slice px nx cx])] w' := by
 subst hnn
 refine enter (fn := Try.f89) Try.func89 rfl Try.ntmps89 rfl (fun a0 ha0 => ?_)
 simp only [List.zipIdx_cons, List.zipIdx_nil, List.map_cons, List.map_nil, Nat.reduceAdd, Nat.zero_add] at ha0
 refine wp_seq_k (fun K0 hK0 => ?_)
 refine wp_region_lit ?_
 refine st_y ha0 rfl (y_assign ha0 rfl) ?_
 clear ha0 a0; intro a1 ha1
 refine wpList_nil ?_
 refine hK0 _ _ ?_; clear hK0; try clear K0
 refine wp_seq_k (fun K1 hK1 => ?_)
 refine wp_seq_k (fun K2 hK2 => ?_)
 refine wp_region_lit ?_
 refine st_y ha1 rfl (y_move ha1 rfl) ?_
 clear ha1 a1; intro a2 ha2
 refine st_y ha2 rfl (y_len ha2 rfl Try.underlying23) ?_
 clear ha2 a2; intro a3 ha3
 refine st_y ha3 rfl (y_move ha3 rfl) ?_
 clear ha3 a3; intro a4 ha4
 refine wpList_nil ?_
 refine hK2 _ _ ?_; clear hK2; try clear K2
 refine wp_block ?_
 refine wp_loop_ghost (fun g a w => ∃ (k : Nat), k ≤ l.length ∧ g = l.length - k ∧ (∀ j, j < k → (l.getD j i0).1 ≠ xb) ∧ Has 19 [(0, .slice p l.length c), (1, .func (.func 73) #[] #[.pointer (some ⟨B, 0, none⟩)]), (7, .int .i64 l.length), (8, .int .i64 k)] a ∧ MemOk X w0 [(1, .dat (.slice p l.length c) (.l 2 (l.map itD))), (2, .box B 67 [.int .i64 xb, .slice px nx cx])] w) (l.length) ?_ ?_
 · exact ⟨0, Nat.zero_le _, rfl, (fun j hj => by omega), ha4.only [0, 1, 7, 8], m0.only [1, 2]⟩
 ·
  clear ha4 m0
  rintro g a5 w5 ⟨k, hkl, hg, hall, ha5, m5⟩
  refine wp_seq_k (fun K3 hK3 => ?_)
  refine wp_region_lit ?_
  refine st_y ha5 rfl (y_lss ha5 rfl rfl) ?_
  clear ha5 a5; intro a6 ha6
  refine wpList_nil ?_
  refine hK3 _ _ ?_; clear hK3; try clear K3
  refine wp_seq_k (fun K4 hK4 => ?_)
  refine bool_cases ha6 (t := 9) rfl (fun hb7 ha7 => ?_) (fun hb7 ha7 => ?_)
  ·
   clear ha6
   try simp only [Q1x, Q2x, Q3x, Q4x, Q5x, Q6x, Q7x, Q8x, Q9x, Q0x, Qax, Qbx] at hb7
   have hk : k < l.length := by omega
   obtain ⟨⟨yb, yd⟩, hes⟩ : ∃ e, l[k]? = some e := ⟨_, List.getElem?_eq_getElem hk⟩
   refine wp_cond_true (ha7.ev (x := .tmp 9) rfl) ?_
   refine wp_skip ?_
   refine hK4 _ _ ?_; clear hK4; try clear K4
   refine wp_seq_k (fun K5 hK5 => ?_)
   refine wp_block ?_
   refine wp_seq_k (fun K6 hK6 => ?_)
   refine wp_region_lit ?_
   refine st_y ha7 rfl (y_move ha7 rfl) ?_
   clear ha7 a6; intro a8 ha8
   refine st_y ha8 rfl (y_assign ha8 rfl) ?_
   clear ha8 a8; intro a9 ha9
   refine wpList_nil ?_
   refine hK6 _ _ ?_; clear hK6; try clear K6
   refine wp_seq_k (fun K7 hK7 => ?_)
   refine wp_region_lit ?_
   refine st_y ha9 rfl (y_move ha9 rfl) ?_
   clear ha9 a9; intro a10 ha10
   refine st_y ha10 rfl (y_move ha10 rfl) ?_
   clear ha10 a10; intro a11 ha11
   refine st_y ha11 rfl (y_move ha11 rfl) ?_
   clear ha11 a11; intro a12 ha12
   obtain ⟨b13, o13, vs13, hp13, hR13, ho13, m13⟩ := m5.openR (i := 1) rfl (k) (r := [.v (.int .i64 yb), .ns .u8 yd]) (itD_get hes) 100 rfl
   cases hp13; clear m5 ho13
   rcases hR13 with _ | ⟨hd13_0, _ | ⟨hd13_1, _ | _⟩⟩
   obtain rfl := hd13_0.v_out
   clear hd13_0
   obtain ⟨p14, c14, hv14, hc14⟩ := hd13_1.ns_shape; subst hv14
   have m14 := m13.dat 101 rfl (hd13_1.cast (fun _ h => (free_add rfl h))); clear m13 hd13_1
   refine st_y ha12 rfl (y_idx ha12 rfl rfl Try.underlying23 sz67ix (k) rfl hk) ?_
   clear ha12 a12; intro a15 ha15
   refine st_y ha15 rfl (y_loadCR ha15 m14 (i := 100) rfl rfl Try.underlying67 rfl sz67ix) ?_
   clear ha15 a15; intro a16 ha16
   refine wpList_plain rfl (fun K hK => ?_)
   refine e_callC ha16 rfl Try.func73 rfl rfl rfl rfl (eqblk_fr _ _ _ _ _ _ _ _ _ _ _ (m14.into [(2, 2)] (by decide) rfl)) ?_
   rintro e w17 ⟨rfl, hm17⟩
   have mx17 := m14.back hm17 [(2, 2)] (by decide); clear hm17 m14
   have m17 : MemOk _ _ [(2, _), (1, _), (100, _), (101, _)] _ := mx17.only [2, 1, 100, 101]; clear mx17
   refine ⟨_, rfl, fun a18 ha18 => ?_⟩; clear ha16 a16
   refine hK _ _ ?_; clear hK K
   refine wpList_nil ?_
   refine hK7 _ _ ?_; clear hK7; try clear K7
   refine bool_cases ha18 (t := 16) rfl (fun hb19 ha19 => ?_) (fun hb19 ha19 => ?_)
   ·
    clear ha18
    try simp only [Q1x, Q2x, Q3x, Q4x, Q5x, Q6x, Q7x, Q8x, Q9x, Q0x, Qax, Qbx] at hb19
    refine wp_cond_true (ha19.ev (x := .tmp 16) rfl) ?_
    refine wp_seq_k (fun K8 hK8 => ?_)
    have ha20 : Has 19 [(0, _), (1, _), (7, _), (8, _), (5, _), (16, _)] a18 := ha19.only [0, 1, 7, 8, 5, 16]; clear ha19
    refine wp_region_lit ?_
    refine st_y ha20 rfl (y_move ha20 rfl) ?_
    clear ha20 a18; intro a21 ha21
    refine st_y ha21 rfl (y_assign ha21 rfl) ?_
    clear ha21 a21; intro a22 ha22
    refine wpList_nil ?_
    refine hK8 _ _ ?_; clear hK8; try clear K8
    refine wp_ret ?_
    try dsimp only [Exit.then, Exit.inBlock]
    refine (ret1 (fn := Try.f89) ha22 rfl rfl ?_)
    exact ⟨_, rfl, iff_of_true (by omega) ⟨_, List.mem_of_getElem? hes, hb19⟩, m17.only [1, 2]⟩
   ·
    clear ha18
    try simp only [Q1x, Q2x, Q3x, Q4x, Q5x, Q6x, Q7x, Q8x, Q9x, Q0x, Qax, Qbx] at hb19
    refine wp_cond_false (ha19.ev (x := .tmp 16) rfl) ?_
    refine wp_skip ?_
    refine hK5 _ _ ?_; clear hK5; try clear K5
    have ha23 : Has 19 [(0, _), (1, _), (7, _), (8, _), (16, _)] a18 := ha19.only [0, 1, 7, 8, 16]; clear ha19
    refine wp_region_lit ?_
    refine st_y ha23 rfl (y_add ha23 rfl rfl (r := ((k + 1 : Nat) : Int)) (by rw [IntWalk.i64_in _ (by omega)]; omega)) ?_
    clear ha23 a18; intro a24 ha24
    refine st_y ha24 rfl (y_move ha24 rfl) ?_
    clear ha24 a24; intro a25 ha25
    refine wpList_nil ?_
    show ∃ n', n' < _ ∧ _
    exact ⟨l.length - (k + 1), by omega, k + 1, by omega, rfl, ne_snoc hall hes hb19, ha25.only [0, 1, 7, 8], m17.only [1, 2]⟩
  ·
   clear ha6
   try simp only [Q1x, Q2x, Q3x, Q4x, Q5x, Q6x, Q7x, Q8x, Q9x, Q0x, Qax, Qbx] at hb7
   obtain rfl : k = l.length := by omega
   refine wp_cond_false (ha7.ev (x := .tmp 9) rfl) ?_
   refine wp_exit ?_
   refine hK1 _ _ ?_; clear hK1; try clear K1
   refine wp_seq_k (fun K9 hK9 => ?_)
   refine wp_region_lit ?_
   refine st_y ha7 rfl (y_assign ha7 rfl) ?_
   clear ha7 a6; intro a26 ha26
   refine wpList_nil ?_
   refine hK9 _ _ ?_; clear hK9; try clear K9
   refine wp_ret ?_
   try dsimp only [Exit.then, Exit.inBlock]
   refine (ret1 (fn := Try.f89) ha26 rfl rfl ?_)
   exact ⟨_, rfl, iff_of_false (by omega) (fun h => by obtain ⟨e9, h1, h2⟩ := h; obtain ⟨j, hj, rfl⟩ := List.getElem_of_mem h1; have := hall j hj; rw [List.getD, List.getElem?_eq_getElem hj] at this; exact this h2), m5.only [1, 2]⟩
theorem cfunc_fr (X : Cx) (B : Nat) (l : List (Int × List Int)) (xb : Int) (p px : Option Addr) (nn c nx cx : Nat) (w0 : World) (hl : l.length ≤ 1000000) (hnn : nn = l.length) (m0 : MemOk X w0 [(1, .dat (.slice p nn c) (.l 2 (l.map itD))), (2, .box B 67 [.int .i64 xb, .slice px nx cx])] w0) :
   Calls Try.prog 72 #[.slice p nn c, .func (.func 73) #[] #[.pointer (some ⟨B, 0, none⟩)]] w0 fun e w' => ∃ b : Bool, e = .returned (.bool b) ∧ (b = true ↔ ∃ e ∈ l, e.1 = xb) ∧ MemOk X w0 [(1, .dat (.slice p nn c) (.l 2 (l.map itD))), (2, .box B 67 [.int .i64 xb, .slice px nx cx])] w' := by
 subst hnn
 refine enter (fn := Try.f72) Try.func72 rfl Try.ntmps72 rfl (fun a0 ha0 => ?_)
 simp only [List.zipIdx_cons, List.zipIdx_nil, List.map_cons, List.map_nil, Nat.reduceAdd, Nat.zero_add] at ha0
 refine wp_seq_k (fun K0 hK0 => ?_)
 refine wp_region_lit ?_
 refine st_y ha0 rfl (y_assign ha0 rfl) ?_
 clear ha0 a0; intro a1 ha1
 refine wpList_nil ?_
 refine hK0 _ _ ?_; clear hK0; try clear K0
 refine wp_seq_k (fun K1 hK1 => ?_)
 refine wp_region_lit ?_
 refine st_y ha1 rfl (y_move ha1 rfl) ?_
 clear ha1 a1; intro a2 ha2
 refine st_y ha2 rfl (y_move ha2 rfl) ?_
 clear ha2 a2; intro a3 ha3
 refine wpList_plain rfl (fun K hK => ?_)
 refine e_call ha3 Try.func89 rfl rfl rfl rfl (ixfunc_fr _ _ l _ _ _ _ _ _ _ _ (by omega) rfl (m0.into [(1, 1), (2, 2)] (by decide) rfl)) ?_
 rintro e w4 ⟨q, rfl, hq, hm4⟩
 have mx4 := m0.back hm4 [(1, 1), (2, 2)] (by decide); clear hm4 m0
 have m4 : MemOk _ _ [(1, _), (2, _)] _ := mx4.only [1, 2]; clear mx4
 refine ⟨_, rfl, fun a5 ha5 => ?_⟩; clear ha3 a3
 refine hK _ _ ?_; clear hK K
 refine st_y ha5 rfl (y_geq ha5 rfl rfl) ?_
 clear ha5 a5; intro a6 ha6
 refine st_y ha6 rfl (y_assign ha6 rfl) ?_
 clear ha6 a6; intro a7 ha7
 refine wpList_nil ?_
 refine hK1 _ _ ?_; clear hK1; try clear K1
 refine wp_ret ?_
 try dsimp only [Exit.then, Exit.inBlock]
 refine (ret1 (fn := Try.f72) ha7 rfl rfl ?_)
 exact ⟨_, rfl, by rw [decide_eq_true_eq]; exact hq, m4.only [1, 2]⟩
theorem pitems_any (bl sz : Int) (l : List (Int × List Int)) (p : Option Addr) (c : Nat) (w0 : World) (h0 : Rd (fun _ => True) w0 (.slice p l.length c) (.l 2 (l.map itD))) (hl : l.length ≤ 1000000) :
   Calls Try.prog 49 #[.int .i64 bl, .int .i64 sz, .slice p l.length c] w0 fun e w' => ∃ b : Bool, e = .returned (.bool b) ∧ (b = true ↔ ItemsR bl sz l) ∧ Below w0.heap.size w0 w' := by
 have hcap : l.length ≤ c := by obtain ⟨pq, cq, hv, hcap⟩ := h0.l_shape; injection hv with _ _ e3; rw [List.length_map] at hcap; omega
 refine enter (fn := Try.f49) Try.func49 rfl Try.ntmps49 rfl (fun a0 ha0 => ?_)
 simp only [List.zipIdx_cons, List.zipIdx_nil, List.map_cons, List.map_nil, Nat.reduceAdd, Nat.zero_add] at ha0
 have m0 := (MemOk.start (fun _ => True) w0).dat 1 rfl (h0.cast (fun _ _ => free_nil (fun _ => trivial)))
 refine wp_seq_k (fun K0 hK0 => ?_)
 refine wp_region_lit ?_
 refine st_y ha0 rfl (y_assign ha0 rfl) ?_
 clear ha0 a0; intro a1 ha1
 refine wpList_nil ?_
 refine hK0 _ _ ?_; clear hK0; try clear K0
 refine wp_seq_k (fun K1 hK1 => ?_)
 refine wp_seq_k (fun K2 hK2 => ?_)
 refine wp_region_lit ?_
 refine st_y ha1 rfl (y_move ha1 rfl) ?_
 clear ha1 a1; intro a2 ha2
 refine st_y ha2 rfl (y_len ha2 rfl Try.underlying23) ?_
 clear ha2 a2; intro a3 ha3
 refine st_y ha3 rfl (y_move ha3 rfl) ?_
 clear ha3 a3; intro a4 ha4
 refine wpList_nil ?_
 refine hK2 _ _ ?_; clear hK2; try clear K2
 refine wp_block ?_
 refine wp_loop_ghost (fun g a w => ∃ (k : Nat), k ≤ l.length ∧ g = l.length - k ∧ ItPre bl sz l k ∧ Has 46 [(0, .int .i64 bl), (1, .int .i64 sz), (2, .slice p l.length c), (9, .slice p l.length c), (10, .int .i64 l.length), (11, .int .i64 k)] a ∧ MemOk (cx (fun _ => True) w0) w0 [(1, .dat (.slice p l.length c) (.l 2 (l.map itD)))] w) (l.length) ?_ ?_
 · exact ⟨0, Nat.zero_le _, rfl, (fun j hj => by omega), ha4.only [0, 1, 2, 9, 10, 11], m0.only [1]⟩
 ·
  clear ha4 m0
  rintro g a5 w5 ⟨k, hkl, hg, hall, ha5, m5⟩
  refine wp_seq_k (fun K3 hK3 => ?_)
  refine wp_region_lit ?_
  refine st_y ha5 rfl (y_lss ha5 rfl rfl) ?_
  clear ha5 a5; intro a6 ha6
  refine wpList_nil ?_
  refine hK3 _ _ ?_; clear hK3; try clear K3
  refine wp_seq_k (fun K4 hK4 => ?_)
  refine bool_cases ha6 (t := 12) rfl (fun hb7 ha7 => ?_) (fun hb7 ha7 => ?_)
  ·
   clear ha6
   try simp only [Q1x, Q2x, Q3x, Q4x, Q5x, Q6x, Q7x, Q8x, Q9x, Q0x, Qax, Qbx] at hb7
   have hk : k < l.length := by omega
   obtain ⟨⟨yb, yd⟩, hes⟩ : ∃ e, l[k]? = some e := ⟨_, List.getElem?_eq_getElem hk⟩
   refine wp_cond_true (ha7.ev (x := .tmp 12) rfl) ?_
   refine wp_skip ?_
   refine hK4 _ _ ?_; clear hK4; try clear K4
   refine wp_seq_k (fun K5 hK5 => ?_)
   refine wp_block ?_
   refine wp_seq_k (fun K6 hK6 => ?_)
   refine wp_region_lit ?_
   refine st_y ha7 rfl (y_move ha7 rfl) ?_
   clear ha7 a6; intro a8 ha8
   obtain ⟨b9, o9, vs9, hp9, hR9, ho9, m9⟩ := m5.openR (i := 1) rfl (k) (r := [.v (.int .i64 yb), .ns .u8 yd]) (itD_get hes) 100 rfl
   cases hp9; clear m5 ho9
   rcases hR9 with _ | ⟨hd9_0, _ | ⟨hd9_1, _ | _⟩⟩
   obtain rfl := hd9_0.v_out
   clear hd9_0
   obtain ⟨p10, c10, hv10, hc10⟩ := hd9_1.ns_shape; subst hv10
   have m10 := m9.dat 101 rfl (hd9_1.cast (fun _ h => (free_add rfl h))); clear m9 hd9_1
   refine st_y ha8 rfl (y_idx ha8 rfl rfl Try.underlying23 sz67ir (k) rfl hk) ?_
   clear ha8 a8; intro a11 ha11
   refine st_y ha11 rfl (y_loadCR ha11 m10 (i := 100) rfl rfl Try.underlying67 rfl sz67ir) ?_
   clear ha11 a11; intro a12 ha12
   refine wpList_plain rfl (fun K hK => ?_)
   refine e_alloc ha12 m10 102 zc67ir rfl ?_
   clear ha12 a12 m10; intro g13 a14 w14 ha14 m14 hB14 hg14
   clear hB14 hg14
   refine hK _ _ ?_; clear hK K
   refine st_y ha14 rfl (y_assign ha14 rfl) ?_
   clear ha14 a14; intro a15 ha15
   refine wpList_plain rfl (fun K hK => ?_)
   refine e_storeW ha15 m14 102 rfl rfl rfl rfl rfl sz67ir ?_
   clear m14; intro w16 m16 hB16
   clear hB16
   refine hK _ _ ?_; clear hK K
   refine wpList_nil ?_
   refine hK6 _ _ ?_; clear hK6; try clear K6
   refine wp_seq_k (fun K7 hK7 => ?_)
   refine wp_seq_k (fun K8 hK8 => ?_)
   refine wp_region_lit ?_
   refine st_y ha15 rfl (y_fieldAddr ha15 (off := 0) rfl Try.underlying67 rfl (s := 0) (by kernel_rfl) rfl) ?_
   clear ha15 a15; intro a17 ha17
   refine st_y ha17 rfl (y_loadB1 ha17 m16 (i := 102) rfl rfl rfl Try.underlying3 rfl) ?_
   clear ha17 a17; intro a18 ha18
   refine st_y ha18 rfl (y_lss ha18 rfl rfl) ?_
   clear ha18 a18; intro a19 ha19
   refine st_y ha19 rfl (y_move ha19 rfl) ?_
   clear ha19 a19; intro a20 ha20
   refine bool_cases ha20 (t := 19) rfl (fun hb21 ha21 => ?_) (fun hb21 ha21 => ?_)
   ·
    clear ha20
    try simp only [Q1x, Q2x, Q3x, Q4x, Q5x, Q6x, Q7x, Q8x, Q9x, Q0x, Qax, Qbx] at hb21
    refine st_skip ha21 rfl rfl rfl rfl ?_
    clear ha21 a20; intro a22 ha22
    refine st_skip ha22 rfl rfl rfl rfl ?_
    clear ha22 a22; intro a23 ha23
    refine st_skip ha23 rfl rfl rfl rfl ?_
    clear ha23 a23; intro a24 ha24
    refine st_skip ha24 rfl rfl rfl rfl ?_
    clear ha24 a24; intro a25 ha25
    refine st_y ha25 rfl (y_pickT ha25 rfl rfl) ?_
    clear ha25 a25; intro a26 ha26
    refine st_y ha26 rfl (y_move ha26 rfl) ?_
    clear ha26 a26; intro a27 ha27
    refine st_skip ha27 rfl rfl rfl rfl ?_
    clear ha27 a27; intro a28 ha28
    refine st_skip ha28 rfl rfl rfl rfl ?_
    clear ha28 a28; intro a29 ha29
    refine st_skip ha29 rfl rfl rfl rfl ?_
    clear ha29 a29; intro a30 ha30
    refine st_skip ha30 rfl rfl rfl rfl ?_
    clear ha30 a30; intro a31 ha31
    refine st_skip ha31 rfl rfl rfl rfl ?_
    clear ha31 a31; intro a32 ha32
    refine st_y ha32 rfl (y_pickT ha32 rfl rfl) ?_
    clear ha32 a32; intro a33 ha33
    refine wpList_nil ?_
    refine hK8 _ _ ?_; clear hK8; try clear K8
    refine wp_cond_true (ha33.ev (x := .tmp 31) rfl) ?_
    refine wp_seq_k (fun K9 hK9 => ?_)
    have ha34 : Has 46 [(0, _), (1, _), (2, _), (9, _), (10, _), (11, _), (12, _), (8, _), (7, _)] a33 := ha33.only [0, 1, 2, 9, 10, 11, 12, 8, 7]; clear ha33
    refine wp_region_lit ?_
    refine st_y ha34 rfl (y_assign ha34 rfl) ?_
    clear ha34 a33; intro a35 ha35
    refine wpList_nil ?_
    refine hK9 _ _ ?_; clear hK9; try clear K9
    refine wp_ret ?_
    try dsimp only [Exit.then, Exit.inBlock]
    refine (ret1 (fn := Try.f49) ha35 rfl rfl ?_)
    exact ⟨_, rfl, iff_of_false (by simp) (fun h => by have h9 := h.2.2 k hk; rw [getI hes] at h9; dsimp only at h9; omega), m16.below⟩
   ·
    clear ha20
    try simp only [Q1x, Q2x, Q3x, Q4x, Q5x, Q6x, Q7x, Q8x, Q9x, Q0x, Qax, Qbx] at hb21
    refine st_g ha21 rfl rfl rfl rfl (y_fieldAddr ha21 (off := 0) rfl Try.underlying67 rfl (s := 0) (by kernel_rfl) rfl) ?_
    clear ha21 a20; intro a36 ha36
    refine st_g ha36 rfl rfl rfl rfl (y_loadB1 ha36 m16 (i := 102) rfl rfl rfl Try.underlying3 rfl) ?_
    clear ha36 a36; intro a37 ha37
    refine st_g ha37 rfl rfl rfl rfl (y_move ha37 rfl) ?_
    clear ha37 a37; intro a38 ha38
    refine st_g ha38 rfl rfl rfl rfl (y_geq ha38 rfl rfl) ?_
    clear ha38 a38; intro a39 ha39
    refine st_y ha39 rfl (y_pickF ha39 rfl rfl) ?_
    clear ha39 a39; intro a40 ha40
    refine st_y ha40 rfl (y_move ha40 rfl) ?_
    clear ha40 a40; intro a41 ha41
    refine bool_cases ha41 (t := 25) rfl (fun hb42 ha42 => ?_) (fun hb42 ha42 => ?_)
    ·
     clear ha41
     try simp only [Q1x, Q2x, Q3x, Q4x, Q5x, Q6x, Q7x, Q8x, Q9x, Q0x, Qax, Qbx] at hb42
     refine st_skip ha42 rfl rfl rfl rfl ?_
     clear ha42 a41; intro a43 ha43
     refine st_skip ha43 rfl rfl rfl rfl ?_
     clear ha43 a43; intro a44 ha44
     refine st_skip ha44 rfl rfl rfl rfl ?_
     clear ha44 a44; intro a45 ha45
     refine st_skip ha45 rfl rfl rfl rfl ?_
     clear ha45 a45; intro a46 ha46
     refine st_skip ha46 rfl rfl rfl rfl ?_
     clear ha46 a46; intro a47 ha47
     refine st_y ha47 rfl (y_pickT ha47 rfl rfl) ?_
     clear ha47 a47; intro a48 ha48
     refine wpList_nil ?_
     refine hK8 _ _ ?_; clear hK8; try clear K8
     refine wp_cond_true (ha48.ev (x := .tmp 31) rfl) ?_
     refine wp_seq_k (fun K10 hK10 => ?_)
     have ha49 : Has 46 [(0, _), (1, _), (2, _), (9, _), (10, _), (11, _), (12, _), (8, _), (7, _)] a48 := ha48.only [0, 1, 2, 9, 10, 11, 12, 8, 7]; clear ha48
     refine wp_region_lit ?_
     refine st_y ha49 rfl (y_assign ha49 rfl) ?_
     clear ha49 a48; intro a50 ha50
     refine wpList_nil ?_
     refine hK10 _ _ ?_; clear hK10; try clear K10
     refine wp_ret ?_
     try dsimp only [Exit.then, Exit.inBlock]
     refine (ret1 (fn := Try.f49) ha50 rfl rfl ?_)
     exact ⟨_, rfl, iff_of_false (by simp) (fun h => by have h9 := h.2.2 k hk; rw [getI hes] at h9; dsimp only at h9; omega), m16.below⟩
    ·
     clear ha41
     try simp only [Q1x, Q2x, Q3x, Q4x, Q5x, Q6x, Q7x, Q8x, Q9x, Q0x, Qax, Qbx] at hb42
     refine st_g ha42 rfl rfl rfl rfl (y_fieldAddr ha42 (off := 1) rfl Try.underlying67 rfl (s := 0) (by kernel_rfl) rfl) ?_
     clear ha42 a41; intro a51 ha51
     refine st_g ha51 rfl rfl rfl rfl (y_loadB1 ha51 m16 (i := 102) rfl rfl rfl Try.underlying43 rfl) ?_
     clear ha51 a51; intro a52 ha52
     refine st_g ha52 rfl rfl rfl rfl (y_len ha52 rfl Try.underlying43) ?_
     clear ha52 a52; intro a53 ha53
     refine st_g ha53 rfl rfl rfl rfl (y_move ha53 rfl) ?_
     clear ha53 a53; intro a54 ha54
     refine st_g ha54 rfl rfl rfl rfl (y_neq ha54 rfl rfl) ?_
     clear ha54 a54; intro a55 ha55
     refine st_y ha55 rfl (y_pickF ha55 rfl rfl) ?_
     clear ha55 a55; intro a56 ha56
     refine wpList_nil ?_
     refine hK8 _ _ ?_; clear hK8; try clear K8
     refine bool_cases ha56 (t := 31) rfl (fun hb57 ha57 => ?_) (fun hb57 ha57 => ?_)
     ·
      clear ha56
      try simp only [Q1x, Q2x, Q3x, Q4x, Q5x, Q6x, Q7x, Q8x, Q9x, Q0x, Qax, Qbx] at hb57
      refine wp_cond_true (ha57.ev (x := .tmp 31) rfl) ?_
      refine wp_seq_k (fun K11 hK11 => ?_)
      have ha58 : Has 46 [(0, _), (1, _), (2, _), (9, _), (10, _), (11, _), (12, _), (8, _), (7, _)] a56 := ha57.only [0, 1, 2, 9, 10, 11, 12, 8, 7]; clear ha57
      refine wp_region_lit ?_
      refine st_y ha58 rfl (y_assign ha58 rfl) ?_
      clear ha58 a56; intro a59 ha59
      refine wpList_nil ?_
      refine hK11 _ _ ?_; clear hK11; try clear K11
      refine wp_ret ?_
      try dsimp only [Exit.then, Exit.inBlock]
      refine (ret1 (fn := Try.f49) ha59 rfl rfl ?_)
      exact ⟨_, rfl, iff_of_false (by simp) (fun h => by have h9 := h.2.2 k hk; rw [getI hes] at h9; dsimp only at h9; omega), m16.below⟩
     ·
      clear ha56
      try simp only [Q1x, Q2x, Q3x, Q4x, Q5x, Q6x, Q7x, Q8x, Q9x, Q0x, Qax, Qbx] at hb57
      refine wp_cond_false (ha57.ev (x := .tmp 31) rfl) ?_
      refine wp_skip ?_
      refine hK7 _ _ ?_; clear hK7; try clear K7
      refine wp_seq_k (fun K12 hK12 => ?_)
      have ha60 : Has 46 [(0, _), (1, _), (2, _), (9, _), (10, _), (11, _), (12, _), (8, _), (7, _)] a56 := ha57.only [0, 1, 2, 9, 10, 11, 12, 8, 7]; clear ha57
      refine wp_region_lit ?_
      refine st_y ha60 rfl (y_move ha60 rfl) ?_
      clear ha60 a56; intro a61 ha61
      refine st_y ha61 rfl (y_move ha61 rfl) ?_
      clear ha61 a61; intro a62 ha62
      refine st_y ha62 rfl (y_sliceHn ha62 k rfl rfl Try.underlying23 sz67ir rfl (by omega)) ?_
      clear ha62 a62; intro a63 ha63
      refine st_y ha63 rfl (y_makeFunc ha63 rfl) ?_
      clear ha63 a63; intro a64 ha64
      have m65 := m16.takeR (i := 1) rfl k (by rw [List.length_map]; omega) 103 rfl; clear m16
      rw [← List.map_take] at m65
      refine wpList_plain rfl (fun K hK => ?_)
      refine e_call ha64 Try.func72 rfl rfl rfl rfl (cfunc_fr _ _ (l.take k) _ _ _ _ _ _ _ _ (by rw [List.length_take]; omega) (by rw [List.length_take]; omega) (m65.into [(1, 103), (2, 102)] (by decide) rfl)) ?_
      rintro e w66 ⟨cb, rfl, hcb, hm66⟩
      have mx66 := m65.back hm66 [(103, 1), (102, 2)] (by decide); clear hm66 m65
      have m66 : MemOk _ _ [(103, _), (102, _), (1, _), (100, _), (101, _)] _ := mx66.only [103, 102, 1, 100, 101]; clear mx66
      refine ⟨_, rfl, fun a67 ha67 => ?_⟩; clear ha64 a64
      refine hK _ _ ?_; clear hK K
      refine wpList_nil ?_
      refine hK12 _ _ ?_; clear hK12; try clear K12
      refine bool_cases ha67 (t := 36) rfl (fun hb68 ha68 => ?_) (fun hb68 ha68 => ?_)
      ·
       clear ha67
       try simp only [Q1x, Q2x, Q3x, Q4x, Q5x, Q6x, Q7x, Q8x, Q9x, Q0x, Qax, Qbx] at hb68
       refine wp_cond_true (ha68.ev (x := .tmp 36) rfl) ?_
       refine wp_seq_k (fun K13 hK13 => ?_)
       have ha69 : Has 46 [(0, _), (1, _), (2, _), (9, _), (10, _), (11, _), (12, _), (36, _)] a67 := ha68.only [0, 1, 2, 9, 10, 11, 12, 36]; clear ha68
       refine wp_region_lit ?_
       refine st_y ha69 rfl (y_assign ha69 rfl) ?_
       clear ha69 a67; intro a70 ha70
       refine wpList_nil ?_
       refine hK13 _ _ ?_; clear hK13; try clear K13
       refine wp_ret ?_
       try dsimp only [Exit.then, Exit.inBlock]
       refine (ret1 (fn := Try.f49) ha70 rfl rfl ?_)
       exact ⟨_, rfl, iff_of_false (by simp) (fun h => (h.2.2 k hk).2.2.2 (by rw [getI hes]; exact hcb.1 (by simp_all))), m66.below⟩
      ·
       clear ha67
       try simp only [Q1x, Q2x, Q3x, Q4x, Q5x, Q6x, Q7x, Q8x, Q9x, Q0x, Qax, Qbx] at hb68
       refine wp_cond_false (ha68.ev (x := .tmp 36) rfl) ?_
       refine wp_skip ?_
       refine hK5 _ _ ?_; clear hK5; try clear K5
       have ha71 : Has 46 [(0, _), (1, _), (2, _), (9, _), (10, _), (11, _), (12, _), (36, _)] a67 := ha68.only [0, 1, 2, 9, 10, 11, 12, 36]; clear ha68
       refine wp_region_lit ?_
       refine st_y ha71 rfl (y_add ha71 rfl rfl (r := ((k + 1 : Nat) : Int)) (by rw [IntWalk.i64_in _ (by omega)]; omega)) ?_
       clear ha71 a67; intro a72 ha72
       refine st_y ha72 rfl (y_move ha72 rfl) ?_
       clear ha72 a72; intro a73 ha73
       refine wpList_nil ?_
       show ∃ n', n' < _ ∧ _
       exact ⟨l.length - (k + 1), by omega, k + 1, by omega, rfl, itpre_snoc hall hes (by omega) (by omega) (fun h => by have h9 := hcb.2 h; simp_all), ha73.only [0, 1, 2, 9, 10, 11], m66.only [1]⟩
  ·
   clear ha6
   try simp only [Q1x, Q2x, Q3x, Q4x, Q5x, Q6x, Q7x, Q8x, Q9x, Q0x, Qax, Qbx] at hb7
   obtain rfl : k = l.length := by omega
   refine wp_cond_false (ha7.ev (x := .tmp 12) rfl) ?_
   refine wp_exit ?_
   refine hK1 _ _ ?_; clear hK1; try clear K1
   refine wp_seq_k (fun K14 hK14 => ?_)
   refine wp_region_lit ?_
   refine st_y ha7 rfl (y_move ha7 rfl) ?_
   clear ha7 a6; intro a74 ha74
   refine st_y ha74 rfl (y_len ha74 rfl Try.underlying23) ?_
   clear ha74 a74; intro a75 ha75
   refine st_y ha75 rfl (y_geq ha75 rfl rfl) ?_
   clear ha75 a75; intro a76 ha76
   refine st_y ha76 rfl (y_move ha76 rfl) ?_
   clear ha76 a76; intro a77 ha77
   refine bool_cases ha77 (t := 41) rfl (fun hb78 ha78 => ?_) (fun hb78 ha78 => ?_)
   ·
    clear ha77
    try simp only [Q1x, Q2x, Q3x, Q4x, Q5x, Q6x, Q7x, Q8x, Q9x, Q0x, Qax, Qbx] at hb78
    refine st_g ha78 rfl rfl rfl rfl (y_move ha78 rfl) ?_
    clear ha78 a77; intro a79 ha79
    refine st_g ha79 rfl rfl rfl rfl (y_len ha79 rfl Try.underlying23) ?_
    clear ha79 a79; intro a80 ha80
    refine st_g ha80 rfl rfl rfl rfl (y_leq ha80 rfl rfl) ?_
    clear ha80 a80; intro a81 ha81
    refine st_y ha81 rfl (y_pickT ha81 rfl rfl) ?_
    clear ha81 a81; intro a82 ha82
    refine st_y ha82 rfl (y_assign ha82 rfl) ?_
    clear ha82 a82; intro a83 ha83
    refine wpList_nil ?_
    refine hK14 _ _ ?_; clear hK14; try clear K14
    refine wp_ret ?_
    try dsimp only [Exit.then, Exit.inBlock]
    refine (ret1 (fn := Try.f49) ha83 rfl rfl ?_)
    exact ⟨_, rfl, by unfold ItemsR; first | (simp; intros; first | exact hall | omega) | (refine iff_of_false (by simp) (fun h => ?_); omega) | (rw [decide_eq_true_eq]; exact ⟨fun h => ⟨by omega, by omega, hall⟩, fun h => by omega⟩), m5.below⟩
   ·
    clear ha77
    try simp only [Q1x, Q2x, Q3x, Q4x, Q5x, Q6x, Q7x, Q8x, Q9x, Q0x, Qax, Qbx] at hb78
    refine st_skip ha78 rfl rfl rfl rfl ?_
    clear ha78 a77; intro a84 ha84
    refine st_skip ha84 rfl rfl rfl rfl ?_
    clear ha84 a84; intro a85 ha85
    refine st_skip ha85 rfl rfl rfl rfl ?_
    clear ha85 a85; intro a86 ha86
    refine st_y ha86 rfl (y_pickF ha86 rfl rfl) ?_
    clear ha86 a86; intro a87 ha87
    refine st_y ha87 rfl (y_assign ha87 rfl) ?_
    clear ha87 a87; intro a88 ha88
    refine wpList_nil ?_
    refine hK14 _ _ ?_; clear hK14; try clear K14
    refine wp_ret ?_
    try dsimp only [Exit.then, Exit.inBlock]
    refine (ret1 (fn := Try.f49) ha88 rfl rfl ?_)
    exact ⟨_, rfl, by unfold ItemsR; first | (simp; intros; first | exact hall | omega) | (refine iff_of_false (by simp) (fun h => ?_); omega) | (rw [decide_eq_true_eq]; exact ⟨fun h => ⟨by omega, by omega, hall⟩, fun h => by omega⟩), m5.below⟩
theorem vitems_any (bl sz : Int) (l : List (Int × List Int)) (p : Option Addr) (c : Nat) (w0 : World) (h0 : Rd (fun _ => True) w0 (.slice p l.length c) (.l 2 (l.map itD))) (hl : l.length ≤ 1000000) :
   Calls Try.prog 28 #[.int .i64 bl, .int .i64 sz, .slice p l.length c] w0 fun e w' => ∃ b : Bool, e = .returned (.bool b) ∧ (b = true ↔ ItemsR bl sz l) ∧ Below w0.heap.size w0 w' := by
 refine enter (fn := Try.f28) Try.func28 rfl Try.ntmps28 rfl (fun a0 ha0 => ?_)
 simp only [List.zipIdx_cons, List.zipIdx_nil, List.map_cons, List.map_nil, Nat.reduceAdd, Nat.zero_add] at ha0
 have m0 := MemOk.start (fun _ => False) w0
 refine wp_seq_k (fun K0 hK0 => ?_)
 refine wp_region_lit ?_
 refine st_y ha0 rfl (y_assign ha0 rfl) ?_
 clear ha0 a0; intro a1 ha1
 refine wpList_nil ?_
 refine hK0 _ _ ?_; clear hK0; try clear K0
 refine wp_seq_k (fun K1 hK1 => ?_)
 refine wp_region_lit ?_
 refine st_y ha1 rfl (y_move ha1 rfl) ?_
 clear ha1 a1; intro a2 ha2
 refine st_y ha2 rfl (y_move ha2 rfl) ?_
 clear ha2 a2; intro a3 ha3
 refine st_y ha3 rfl (y_move ha3 rfl) ?_
 clear ha3 a3; intro a4 ha4
 refine wpList_plain rfl (fun K hK => ?_)
 refine e_call ha4 Try.func49 rfl rfl rfl rfl (pitems_any bl sz l _ _ _ ((h0.now' m0 rfl).any) hl) ?_
 rintro e w5 ⟨b, rfl, hb9, hb5⟩
 have m6 := m0.later hb5
 clear m0
 clear hb5
 refine ⟨_, rfl, fun a7 ha7 => ?_⟩; clear ha4 a4
 refine hK _ _ ?_; clear hK K
 refine st_y ha7 rfl (y_assign ha7 rfl) ?_
 clear ha7 a7; intro a8 ha8
 refine wpList_nil ?_
 refine hK1 _ _ ?_; clear hK1; try clear K1
 refine wp_ret ?_
 try dsimp only [Exit.then, Exit.inBlock]
 refine (ret1 (fn := Try.f28) ha8 rfl rfl ?_)
 exact ⟨_, rfl, hb9, m6.below⟩
end Go.Proofs.Ytocfbocdnklllaa.K
