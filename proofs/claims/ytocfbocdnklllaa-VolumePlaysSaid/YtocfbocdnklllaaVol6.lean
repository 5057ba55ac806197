/- volume: noughts, itemsOf. -/
import Derived.Test.YtocfbocdnklllaaVol5
import Derived.Test.YtocfbocdnklllaaAb18
namespace Go.Proofs.Ytocfbocdnklllaa.K
open Go.ChangeShapes Go.WideShapes Go.ChangeAt Go.RowKit
set_option linter.unusedVariables false
set_option linter.unusedSimpArgs false

theorem inf5no : (Try.prog.info? 5).map (fun i => (i.zero, i.size, i.bytes)) = some (some (.int .u8 0), 1, 1) := by kernel_rfl
theorem inf43no : (Try.prog.info? 43).map (fun i => (i.zero, i.size, i.bytes)) = some (some (.slice none 0 0), 1, 24) := by kernel_rfl
theorem fl67io : flatS Try.prog 67 [.int .i64 0, .slice none 0 0] = true := by kernel_rfl
theorem inf67io : (Try.prog.info? 67).map (fun i => (i.zero, i.size, i.bytes)) = some (some (.agg #[.int .i64 0, .slice none 0 0]), 2, 32) := by kernel_rfl
theorem sz67io : (Try.prog.info? 67).map (·.size) = some 2 := by kernel_rfl
theorem zc67io : ((Try.prog.info? 67).bind (·.zero)).map (·.cells.toList) = some [.int .i64 0, .slice none 0 0] := by kernel_rfl

def bD (l : List Int) : List D := [.ns .u8 l]
def itemsL (fi cn9 : Int) (es : List (Int × List Int)) : List (Int × List Int) := (es.filter (fun x => decide (fi ≤ x.1 ∧ x.1 ≤ fi + cn9 - 1))).map (fun x => (x.1 - fi, x.2))
theorem itemsL_yes {fi cn9 : Int} {es : List (Int × List Int)} {k : Nat} {xb : Int} {xd : List Int} (h : es[k]? = some (xb, xd)) (hb : fi ≤ xb ∧ xb ≤ fi + cn9 - 1) : itemsL fi cn9 (es.take (k + 1)) = itemsL fi cn9 (es.take k) ++ [(xb - fi, xd)] := by
 unfold itemsL
 rw [take_snoc h, List.filter_append, List.map_append]
 simp [hb]
theorem itemsL_no {fi cn9 : Int} {es : List (Int × List Int)} {k : Nat} {xb : Int} {xd : List Int} (h : es[k]? = some (xb, xd)) (hb : ¬ (fi ≤ xb ∧ xb ≤ fi + cn9 - 1)) : itemsL fi cn9 (es.take (k + 1)) = itemsL fi cn9 (es.take k) := by
 unfold itemsL
 rw [take_snoc h, List.filter_append, List.map_append]
 simp; omega
theorem itemsL_len (fi cn9 : Int) (es : List (Int × List Int)) : (itemsL fi cn9 es).length ≤ es.length := by
 unfold itemsL; rw [List.length_map]; exact List.length_filter_le _ _
set_option maxRecDepth 100000
set_option maxHeartbeats 4000000
theorem noughts_any (bl sz : Int) (n z : Nat) (w0 : World) (hn : min bl 256 = n) (hz : min (max sz 0) 32 = z) :
   Calls Try.prog 51 #[.int .i64 bl, .int .i64 sz] w0 fun e w' => ∃ p c, e = .returned (.slice p ((List.replicate n (List.replicate z 0)).map bD).length c) ∧ RowOk w0.heap.size (fun b => Out (fun _ => False) w0 b ∧ (Value.slice p ((List.replicate n (List.replicate z 0)).map bD).length c).ownBlock ≠ some b) w' (.slice p ((List.replicate n (List.replicate z 0)).map bD).length c) 43 1 ((List.replicate n (List.replicate z 0)).map bD) ∧ Below w0.heap.size w0 w' := by
 refine enter (fn := Try.f51) Try.func51 rfl Try.ntmps51 rfl (fun a0 ha0 => ?_)
 simp only [List.zipIdx_cons, List.zipIdx_nil, List.map_cons, List.map_nil, Nat.reduceAdd, Nat.zero_add] at ha0
 have m0 := MemOk.start (fun _ => False) w0
 refine wp_seq_k (fun K0 hK0 => ?_)
 refine wp_region_lit ?_
 refine st_y ha0 rfl (y_assign ha0 rfl) ?_
 clear ha0 a0; intro a1 ha1
 refine wpList_nil ?_
 refine hK0 _ _ ?_; clear hK0; try clear K0
 refine wp_seq_k (fun K1 hK1 => ?_)
 refine wp_region_lit ?_
 refine st_y ha1 rfl (y_assign ha1 rfl) ?_
 clear ha1 a1; intro a2 ha2
 refine wpList_nil ?_
 refine hK1 _ _ ?_; clear hK1; try clear K1
 refine wp_seq_k (fun K2 hK2 => ?_)
 refine wp_seq_k (fun K3 hK3 => ?_)
 refine wp_region_lit ?_
 refine st_y ha2 rfl (y_move ha2 rfl) ?_
 clear ha2 a2; intro a3 ha3
 refine st_y ha3 rfl (y_min ha3 rfl rfl rfl) ?_
 clear ha3 a3; intro a4 ha4
 refine st_y ha4 rfl (y_move ha4 rfl) ?_
 clear ha4 a4; intro a5 ha5
 refine wpList_nil ?_
 refine hK3 _ _ ?_; clear hK3; try clear K3
 refine wp_block ?_
 refine wp_loop_ghost (fun g a w => ∃ (k : Nat) (p : Option Addr) (c : Nat), k ≤ n ∧ g = n - k ∧ Has 19 [(1, .int .i64 sz), (5, .slice p ((List.replicate k (List.replicate z 0)).map bD).length c), (7, .int .i64 (min bl 256)), (8, .int .i64 k)] a ∧ MemOk (cn w0) w0 [(9, .row (.slice p ((List.replicate k (List.replicate z 0)).map bD).length c) 43 1 ((List.replicate k (List.replicate z 0)).map bD))] w) (n) ?_ ?_
 · have mz := m0.nilR 9 43 1
   exact ⟨0, _, _, Nat.zero_le _, rfl, ha5.only [1, 5, 7, 8], mz.only [9]⟩
 ·
  clear ha5 m0
  rintro g a6 w6 ⟨k, p, c, hkl, hg, ha6, m6⟩
  refine wp_seq_k (fun K4 hK4 => ?_)
  refine wp_region_lit ?_
  refine st_y ha6 rfl (y_lss ha6 rfl rfl) ?_
  clear ha6 a6; intro a7 ha7
  refine wpList_nil ?_
  refine hK4 _ _ ?_; clear hK4; try clear K4
  refine wp_seq_k (fun K5 hK5 => ?_)
  refine bool_cases ha7 (t := 9) rfl (fun hb8 ha8 => ?_) (fun hb8 ha8 => ?_)
  ·
   clear ha7
   try simp only [Q1x, Q2x, Q3x, Q4x, Q5x, Q6x, Q7x, Q8x, Q9x, Q0x, Qax, Qbx] at hb8
   have hk : k < n := by omega
   refine wp_cond_true (ha8.ev (x := .tmp 9) rfl) ?_
   refine wp_skip ?_
   refine hK5 _ _ ?_; clear hK5; try clear K5
   refine wp_seq_k (fun K6 hK6 => ?_)
   refine wp_block ?_
   refine wp_region_lit ?_
   refine st_y ha8 rfl (y_move ha8 rfl) ?_
   clear ha8 a7; intro a9 ha9
   refine st_y ha9 rfl (y_move ha9 rfl) ?_
   clear ha9 a9; intro a10 ha10
   refine st_y ha10 rfl (y_max ha10 rfl rfl rfl) ?_
   clear ha10 a10; intro a11 ha11
   refine st_y ha11 rfl (y_min ha11 rfl rfl rfl) ?_
   clear ha11 a11; intro a12 ha12
   refine wpList_plain rfl (fun K hK => ?_)
   refine e_makeN ha12 m6 100 (z) rfl rfl hz hz Try.underlying43 inf5no (by decide) (by omega) rfl ?_
   clear ha12 a12 m6; intro p13 c13 a14 w14 ha14 m14
   refine hK _ _ ?_; clear hK K
   have m16 := m14.freezeN 100 rfl; clear m14
   refine wpList_plain rfl (fun K hK => ?_)
   refine e_litR ha14 m16 101 (mm := 1) rfl (.cons rfl rfl (.cons (m16.rd (i := 100) rfl) .nil) <| .nil) Try.underlying62 inf43no rfl rfl rfl rfl rfl ?_
   clear ha14 a14 m16; intro g15 a17 w17 ha17 m17
   refine hK _ _ ?_; clear hK K
   have m19 := m17.freezeR 101 rfl; clear m17
   refine wpList_plain rfl (fun K hK => ?_)
   refine e_appR ha17 m19 9 rfl rfl rfl (m19.rd (i := 101) rfl) Try.underlying62 inf43no rfl rfl (by decide) (by simp; omega) rfl ?_
   clear ha17 a17 m19; intro p18 c18 a20 w20 ha20 m20
   refine hK _ _ ?_; clear hK K
   refine st_y ha20 rfl (y_assign ha20 rfl) ?_
   clear ha20 a20; intro a21 ha21
   refine wpList_nil ?_
   refine hK6 _ _ ?_; clear hK6; try clear K6
   have ha22 : Has 19 [(1, _), (5, _), (7, _), (8, _)] a21 := ha21.only [1, 5, 7, 8]; clear ha21
   refine wp_region_lit ?_
   refine st_y ha22 rfl (y_add ha22 rfl rfl (r := ((k + 1 : Nat) : Int)) (by rw [IntWalk.i64_in _ (by omega)]; omega)) ?_
   clear ha22 a21; intro a23 ha23
   refine st_y ha23 rfl (y_move ha23 rfl) ?_
   clear ha23 a23; intro a24 ha24
   refine wpList_nil ?_
   show ∃ n', n' < _ ∧ _
   have hE : (List.replicate k (List.replicate z 0)).map bD ++ [[D.ns .u8 (List.replicate z 0)]] = (List.replicate (k + 1) (List.replicate z 0)).map bD := by rw [List.replicate_succ', List.map_append]; rfl
   rw [hE] at m20 ha24
   exact ⟨n - (k + 1), by omega, k + 1, _, _, by omega, rfl, ha24.only [1, 5, 7, 8], m20.only [9]⟩
  ·
   clear ha7
   try simp only [Q1x, Q2x, Q3x, Q4x, Q5x, Q6x, Q7x, Q8x, Q9x, Q0x, Qax, Qbx] at hb8
   obtain rfl : k = n := by omega
   refine wp_cond_false (ha8.ev (x := .tmp 9) rfl) ?_
   refine wp_exit ?_
   refine hK2 _ _ ?_; clear hK2; try clear K2
   refine wp_seq_k (fun K7 hK7 => ?_)
   refine wp_region_lit ?_
   refine st_y ha8 rfl (y_move ha8 rfl) ?_
   clear ha8 a7; intro a25 ha25
   refine st_y ha25 rfl (y_assign ha25 rfl) ?_
   clear ha25 a25; intro a26 ha26
   refine wpList_nil ?_
   refine hK7 _ _ ?_; clear hK7; try clear K7
   refine wp_ret ?_
   try dsimp only [Exit.then, Exit.inBlock]
   refine (ret1 (fn := Try.f51) ha26 rfl rfl ?_)
   exact ⟨_, _, rfl, m6.outR (i := 9) rfl, m6.below⟩
theorem itemsOf_any (fi cn9 sq : Int) (es : List (Int × List Int)) (p0 : Option Addr) (c0 nn : Nat) (w0 : World) (h0 : Rd (fun _ => True) w0 (.slice p0 nn c0) (.l 2 (es.map itD))) (hl : es.length ≤ 1000000) (hok : ItsOk es) (hf : 0 ≤ fi ∧ fi ≤ 1000000) (hc : 0 ≤ cn9 ∧ cn9 ≤ 1000000) :
   Calls Try.prog 53 #[.agg #[.int .i64 sq, .slice p0 nn c0], .int .i64 fi, .int .i64 cn9] w0 fun e w' => ∃ p c, e = .returned (.slice p ((itemsL fi cn9 es).map itD).length c) ∧ Rd (New w0) w' (.slice p ((itemsL fi cn9 es).map itD).length c) (.l 2 ((itemsL fi cn9 es).map itD)) ∧ Below w0.heap.size w0 w' := by
 obtain rfl : nn = es.length := by obtain ⟨pq, cq, hv, _⟩ := h0.l_shape; injection hv with _ e2 _; rw [List.length_map] at e2; exact e2
 refine enter (fn := Try.f53) Try.func53 rfl Try.ntmps53 rfl (fun a0 ha0 => ?_)
 simp only [List.zipIdx_cons, List.zipIdx_nil, List.map_cons, List.map_nil, Nat.reduceAdd, Nat.zero_add] at ha0
 have m0 := MemOk.start (fun _ => False) w0
 refine wp_seq_k (fun K0 hK0 => ?_)
 refine wp_region_lit ?_
 refine wpList_plain rfl (fun K hK => ?_)
 refine e_box ha0 m0 20 (cs := [_, _]) rfl rfl rfl ?_
 clear ha0 a0 m0; intro g1 a2 w2 ha2 m2 hB2 hg2
 clear hB2 hg2
 refine hK _ _ ?_; clear hK K
 refine st_y ha2 rfl (y_assign ha2 rfl) ?_
 clear ha2 a2; intro a3 ha3
 refine wpList_nil ?_
 refine hK0 _ _ ?_; clear hK0; try clear K0
 refine wp_seq_k (fun K1 hK1 => ?_)
 refine wp_region_lit ?_
 refine st_y ha3 rfl (y_assign ha3 rfl) ?_
 clear ha3 a3; intro a4 ha4
 refine wpList_nil ?_
 refine hK1 _ _ ?_; clear hK1; try clear K1
 refine wp_seq_k (fun K2 hK2 => ?_)
 refine wp_seq_k (fun K3 hK3 => ?_)
 refine wp_region_lit ?_
 refine st_y ha4 rfl (y_fieldAddr ha4 (off := 1) rfl Try.underlying55 rfl (s := 0) (by kernel_rfl) rfl) ?_
 clear ha4 a4; intro a5 ha5
 refine st_y ha5 rfl (y_loadB1 ha5 m2 (i := 20) rfl rfl rfl Try.underlying23 rfl) ?_
 clear ha5 a5; intro a6 ha6
 refine st_y ha6 rfl (y_len ha6 rfl Try.underlying23) ?_
 clear ha6 a6; intro a7 ha7
 refine st_y ha7 rfl (y_move ha7 rfl) ?_
 clear ha7 a7; intro a8 ha8
 refine wpList_nil ?_
 refine hK3 _ _ ?_; clear hK3; try clear K3
 refine wp_block ?_
 refine wp_loop_ghost (fun g a w => ∃ (k : Nat) (p : Option Addr) (c : Nat), k ≤ es.length ∧ g = es.length - k ∧ Has 38 [(1, .int .i64 fi), (2, .int .i64 cn9), (7, .slice p ((itemsL fi cn9 (es.take k)).map itD).length c), (11, .slice p0 es.length c0), (12, .int .i64 es.length), (13, .int .i64 k)] a ∧ MemOk (cn w0) w0 [(9, .row (.slice p ((itemsL fi cn9 (es.take k)).map itD).length c) 67 2 ((itemsL fi cn9 (es.take k)).map itD))] w) (es.length) ?_ ?_
 · have mz := m2.nilR 9 67 2
   exact ⟨0, _, _, Nat.zero_le _, rfl, ha8.only [1, 2, 7, 11, 12, 13], mz.only [9]⟩
 ·
  clear ha8 m2
  rintro g a9 w9 ⟨k, p, c, hkl, hg, ha9, m9⟩
  refine wp_seq_k (fun K4 hK4 => ?_)
  refine wp_region_lit ?_
  refine st_y ha9 rfl (y_lss ha9 rfl rfl) ?_
  clear ha9 a9; intro a10 ha10
  refine wpList_nil ?_
  refine hK4 _ _ ?_; clear hK4; try clear K4
  refine wp_seq_k (fun K5 hK5 => ?_)
  refine bool_cases ha10 (t := 14) rfl (fun hb11 ha11 => ?_) (fun hb11 ha11 => ?_)
  ·
   clear ha10
   try simp only [Q1x, Q2x, Q3x, Q4x, Q5x, Q6x, Q7x, Q8x, Q9x, Q0x, Qax, Qbx] at hb11
   have hk : k < es.length := by omega
   obtain ⟨⟨xb, xd⟩, hes⟩ : ∃ e, es[k]? = some e := ⟨_, List.getElem?_eq_getElem hk⟩
   have hed := hok _ (List.mem_of_getElem? hes)
   dsimp only at hed
   refine wp_cond_true (ha11.ev (x := .tmp 14) rfl) ?_
   refine wp_skip ?_
   refine hK5 _ _ ?_; clear hK5; try clear K5
   refine wp_seq_k (fun K6 hK6 => ?_)
   refine wp_block ?_
   refine wp_seq_k (fun K7 hK7 => ?_)
   refine wp_region_lit ?_
   obtain ⟨gx12, ox12, vx12, hp12, hl12, hR12, hrg12⟩ := h0.extA (k) (r := [.v (.int .i64 xb), .ns .u8 xd]) (itD_get hes)
   cases hp12; clear hl12
   rcases hR12 with _ | ⟨hd12_0, _ | ⟨hd12_1, _ | _⟩⟩
   obtain rfl := hd12_0.v_out
   clear hd12_0
   obtain ⟨p13, c13, hv13, hw13⟩ := hd12_1.ns_shape; subst hv13
   refine st_y ha11 rfl (y_idx ha11 rfl rfl Try.underlying23 sz67io (k) rfl hk) ?_
   clear ha11 a10; intro a14 ha14
   refine st_y ha14 rfl (y_loadAt ha14 (hrg12 m9 rfl) rfl Try.underlying67 rfl sz67io) ?_
   clear ha14 a14; intro a15 ha15
   refine wpList_plain rfl (fun K hK => ?_)
   refine e_alloc ha15 m9 101 zc67io rfl ?_
   clear ha15 a15 m9; intro g16 a17 w17 ha17 m17 hB17 hg17
   clear hB17 hg17
   refine hK _ _ ?_; clear hK K
   refine wpList_plain rfl (fun K hK => ?_)
   refine e_storeW ha17 m17 101 rfl rfl rfl rfl rfl sz67io ?_
   clear m17; intro w18 m18 hB18
   clear hB18
   refine hK _ _ ?_; clear hK K
   refine wpList_nil ?_
   refine hK7 _ _ ?_; clear hK7; try clear K7
   refine wp_seq_k (fun K8 hK8 => ?_)
   refine wp_region_lit ?_
   refine st_y ha17 rfl (y_fieldAddr ha17 (off := 0) rfl Try.underlying67 rfl (s := 0) (by kernel_rfl) rfl) ?_
   clear ha17 a17; intro a19 ha19
   refine st_y ha19 rfl (y_loadB1 ha19 m18 (i := 101) rfl rfl rfl Try.underlying3 rfl) ?_
   clear ha19 a19; intro a20 ha20
   refine st_y ha20 rfl (y_move ha20 rfl) ?_
   clear ha20 a20; intro a21 ha21
   refine st_y ha21 rfl (y_move ha21 rfl) ?_
   clear ha21 a21; intro a22 ha22
   refine st_y ha22 rfl (y_move ha22 rfl) ?_
   clear ha22 a22; intro a23 ha23
   refine st_y ha23 rfl (y_add ha23 rfl rfl (r := fi + cn9) (IntWalk.i64_in _ (by omega))) ?_
   clear ha23 a23; intro a24 ha24
   refine st_y ha24 rfl (y_sub ha24 rfl rfl (r := fi + cn9 - 1) (IntWalk.i64_in _ (by omega))) ?_
   clear ha24 a24; intro a25 ha25
   refine wpList_plain rfl (fun K hK => ?_)
   refine e_call ha25 Try.func35 rfl rfl rfl rfl (within_any _ _ _ _) ?_
   rintro e w26 ⟨rfl, hb26⟩
   have m27 := m18.later hb26
   clear m18
   clear hb26
   refine ⟨_, rfl, fun a28 ha28 => ?_⟩; clear ha25 a25
   refine hK _ _ ?_; clear hK K
   refine wpList_nil ?_
   refine hK8 _ _ ?_; clear hK8; try clear K8
   refine bool_cases ha28 (t := 24) rfl (fun hb29 ha29 => ?_) (fun hb29 ha29 => ?_)
   ·
    clear ha28
    try simp only [Q1x, Q2x, Q3x, Q4x, Q5x, Q6x, Q7x, Q8x, Q9x, Q0x, Qax, Qbx] at hb29
    refine wp_cond_true (ha29.ev (x := .tmp 24) rfl) ?_
    have ha30 : Has 38 [(1, _), (2, _), (7, _), (11, _), (12, _), (13, _), (9, _), (24, _)] a28 := ha29.only [1, 2, 7, 11, 12, 13, 9, 24]; clear ha29
    have m31 : MemOk _ _ [(9, _), (101, _)] _ := m27.only [9, 101]; clear m27
    refine region_m 10 (B := [(9, _), (101, _)]) (m31.to ⟨il, il, trivial⟩) m31 (by kernel_rfl) (fun w32 mB32 m32 => ?_); clear m31 mB32
    refine dyn 0 ha30 rfl rfl (m32.to ⟨il, il, trivial⟩) (fun W => y_move ha30 rfl) ?_
    clear ha30 a28; intro a33 ha33
    refine dyn 1 ha33 rfl rfl (m32.to ⟨il, il, trivial⟩) (fun W => y_fieldAddr ha33 (off := 0) rfl Try.underlying67 rfl (s := 0) (by kernel_rfl) rfl) ?_
    clear ha33 a33; intro a34 ha34
    refine dr 2 ha34 rfl rfl (m32.to ⟨il, il, trivial⟩) (fun W hW => y_loadB1 ha34 hW (i := 101) rfl rfl rfl Try.underlying3 rfl) ?_
    clear ha34 a34; intro a35 ha35
    refine dyn 3 ha35 rfl rfl (m32.to ⟨il, il, trivial⟩) (fun W => y_move ha35 rfl) ?_
    clear ha35 a35; intro a36 ha36
    refine dyn 4 ha36 rfl rfl (m32.to ⟨il, il, trivial⟩) (fun W => y_sub ha36 rfl rfl (r := xb - fi) (IntWalk.i64_in _ (by omega))) ?_
    clear ha36 a36; intro a37 ha37
    refine dyn 5 ha37 rfl rfl (m32.to ⟨il, il, trivial⟩) (fun W => y_fieldAddr ha37 (off := 1) rfl Try.underlying67 rfl (s := 0) (by kernel_rfl) rfl) ?_
    clear ha37 a37; intro a38 ha38
    refine dr 6 ha38 rfl rfl (m32.to ⟨il, il, trivial⟩) (fun W hW => y_loadB1 ha38 hW (i := 101) rfl rfl rfl Try.underlying43 rfl) ?_
    clear ha38 a38; intro a39 ha39
    refine stepE_only 7 rfl (by kernel_rfl) rfl (fun K hK => ?_)
    refine e_call ha39 Try.func52 rfl rfl rfl rfl (plainB_any xd _ _ _ ((hd12_1.now' m32 rfl).any) hed) ?_
    rintro e w40 ⟨p40, c40, rfl, hd40, hb40⟩
    have m41 := m32.callF 102 rfl hb40 hd40
    clear m32
    clear hb40 hd40
    refine ⟨_, rfl, fun a42 ha42 => ?_⟩; clear ha39 a39
    refine hK _ _ (m41.to ⟨il, il, trivial⟩) ?_; clear hK K
    refine dyn 8 ha42 rfl rfl (m41.to ⟨il, il, trivial⟩) (fun W => y_build ha42 rfl zc67io fl67io rfl (by dsimp only [setL, List.set] <;> rfl)) ?_
    clear ha42 a42; intro a43 ha43
    refine stepE_only 9 rfl (by kernel_rfl) rfl (fun K hK => ?_)
    refine e_litR ha43 m41 103 (mm := 2) rfl (.cons rfl rfl (.cons (.v _) (.cons (m41.rd (i := 102) rfl) .nil)) <| .nil) Try.underlying23 inf67io rfl rfl rfl rfl rfl ?_
    clear ha43 a43 m41; intro g44 a45 w45 ha45 m45
    refine hK _ _ (m45.to ⟨il, il, trivial⟩) ?_; clear hK K
    have m47 := m45.freezeR 103 rfl; clear m45
    refine stepE_end 10 rfl (by kernel_rfl) rfl (by rfl) (fun K hK => ?_)
    refine e_appR ha45 m47 9 rfl rfl rfl (m47.rd (i := 103) rfl) Try.underlying23 inf67io rfl rfl (by decide) (by have := itemsL_len fi cn9 (es.take k); rw [List.length_take] at this; simp; omega) rfl ?_
    clear ha45 a45 m47; intro p46 c46 a48 w48 ha48 m48
    refine hK _ _ ?_; clear hK K
    refine dyp 11 ha48 rfl rfl (fun W => y_assign ha48 rfl) ?_
    clear ha48 a48; intro a49 ha49
    refine wpAnyE_done (by kernel_rfl) ?_ _
    refine hK6 _ _ ?_; clear hK6; try clear K6
    have ha50 : Has 38 [(1, _), (2, _), (7, _), (11, _), (12, _), (13, _), (24, _)] a49 := ha49.only [1, 2, 7, 11, 12, 13, 24]; clear ha49
    refine wp_region_lit ?_
    refine st_y ha50 rfl (y_add ha50 rfl rfl (r := ((k + 1 : Nat) : Int)) (by rw [IntWalk.i64_in _ (by omega)]; omega)) ?_
    clear ha50 a49; intro a51 ha51
    refine st_y ha51 rfl (y_move ha51 rfl) ?_
    clear ha51 a51; intro a52 ha52
    refine wpList_nil ?_
    show ∃ n', n' < _ ∧ _
    have hE : (itemsL fi cn9 (es.take k)).map itD ++ [[D.v (.int .i64 (xb - fi)), .ns .u8 xd]] = (itemsL fi cn9 (es.take (k + 1))).map itD := by rw [itemsL_yes hes (by omega), List.map_append]; rfl
    rw [hE] at m48 ha52
    exact ⟨es.length - (k + 1), by omega, k + 1, _, _, by omega, rfl, ha52.only [1, 2, 7, 11, 12, 13], m48.only [9]⟩
   ·
    clear ha28
    try simp only [Q1x, Q2x, Q3x, Q4x, Q5x, Q6x, Q7x, Q8x, Q9x, Q0x, Qax, Qbx] at hb29
    refine wp_cond_false (ha29.ev (x := .tmp 24) rfl) ?_
    refine wp_skip ?_
    refine hK6 _ _ ?_; clear hK6; try clear K6
    have ha53 : Has 38 [(1, _), (2, _), (7, _), (11, _), (12, _), (13, _), (24, _)] a28 := ha29.only [1, 2, 7, 11, 12, 13, 24]; clear ha29
    refine wp_region_lit ?_
    refine st_y ha53 rfl (y_add ha53 rfl rfl (r := ((k + 1 : Nat) : Int)) (by rw [IntWalk.i64_in _ (by omega)]; omega)) ?_
    clear ha53 a28; intro a54 ha54
    refine st_y ha54 rfl (y_move ha54 rfl) ?_
    clear ha54 a54; intro a55 ha55
    refine wpList_nil ?_
    show ∃ n', n' < _ ∧ _
    have hE : itemsL fi cn9 (es.take k) = itemsL fi cn9 (es.take (k + 1)) := (itemsL_no hes (by omega)).symm
    rw [hE] at m27 ha55
    exact ⟨es.length - (k + 1), by omega, k + 1, _, _, by omega, rfl, ha55.only [1, 2, 7, 11, 12, 13], m27.only [9]⟩
  ·
   clear ha10
   try simp only [Q1x, Q2x, Q3x, Q4x, Q5x, Q6x, Q7x, Q8x, Q9x, Q0x, Qax, Qbx] at hb11
   obtain rfl : k = es.length := by omega
   refine wp_cond_false (ha11.ev (x := .tmp 14) rfl) ?_
   refine wp_exit ?_
   refine hK2 _ _ ?_; clear hK2; try clear K2
   refine wp_seq_k (fun K9 hK9 => ?_)
   refine wp_region_lit ?_
   refine st_y ha11 rfl (y_move ha11 rfl) ?_
   clear ha11 a10; intro a56 ha56
   refine st_y ha56 rfl (y_assign ha56 rfl) ?_
   clear ha56 a56; intro a57 ha57
   refine wpList_nil ?_
   refine hK9 _ _ ?_; clear hK9; try clear K9
   refine wp_ret ?_
   try dsimp only [Exit.then, Exit.inBlock]
   refine (ret1 (fn := Try.f53) ha57 rfl rfl ?_)
   rw [List.take_length] at *
   have m58 := m9.freezeR 9 rfl; clear m9
   exact ⟨_, _, rfl, m58.outF (i := 9) rfl, m58.below⟩
end Go.Proofs.Ytocfbocdnklllaa.K
