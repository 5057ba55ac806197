/- volume: Put. -/
import Derived.Test.YtocfbocdnklllaaVol4
namespace Go.Proofs.Ytocfbocdnklllaa.K
open Go.ChangeShapes Go.WideShapes Go.ChangeAt Go.RowKit
set_option linter.unusedVariables false
set_option linter.unusedSimpArgs false

theorem inf55lo : (Try.prog.info? 55).map (fun i => (i.zero, i.size, i.bytes)) = some (some (.agg #[.int .i64 0, .slice none 0 0]), 2, 32) := by kernel_rfl
theorem sz55lo : (Try.prog.info? 55).map (·.size) = some 2 := by kernel_rfl
theorem zc55lo : ((Try.prog.info? 55).bind (·.zero)).map (·.cells.toList) = some [.int .i64 0, .slice none 0 0] := by kernel_rfl
theorem sz22vf : (Try.prog.info? 22).map (·.size) = some 1 := by kernel_rfl
theorem sz31vf : (Try.prog.info? 31).map (·.size) = some 1 := by kernel_rfl
theorem sz32vf : (Try.prog.info? 32).map (·.size) = some 1 := by kernel_rfl
theorem sz34vf : (Try.prog.info? 34).map (·.size) = some 11 := by kernel_rfl
theorem zc34vf : ((Try.prog.info? 34).bind (·.zero)).map (·.cells.toList) = some [.int .i64 0, .int .i64 0, .int .i64 0, .int .i64 0, .slice none 0 0, .int .i64 0, .int .i64 0, .bool false, .int .i64 0, .slice none 0 0, .slice none 0 0] := by kernel_rfl
theorem fl55vw : flatS Try.prog 55 [.int .i64 0, .slice none 0 0] = true := by kernel_rfl
theorem inf55vw : (Try.prog.info? 55).map (fun i => (i.zero, i.size, i.bytes)) = some (some (.agg #[.int .i64 0, .slice none 0 0]), 2, 32) := by kernel_rfl
theorem sz32vw : (Try.prog.info? 32).map (·.size) = some 1 := by kernel_rfl
theorem sz34vw : (Try.prog.info? 34).map (·.size) = some 11 := by kernel_rfl
theorem zc55vw : ((Try.prog.info? 55).bind (·.zero)).map (·.cells.toList) = some [.int .i64 0, .slice none 0 0] := by kernel_rfl


theorem fl45vD : flatS Try.prog 45 [.int .i64 0, .int .i64 0, .int .i64 0, .int .i64 0, .slice none 0 0] = true := by kernel_rfl
theorem sz25vD : (Try.prog.info? 25).map (·.size) = some 10 := by kernel_rfl
theorem sz34vD : (Try.prog.info? 34).map (·.size) = some 11 := by kernel_rfl
theorem sz45vD : (Try.prog.info? 45).map (·.size) = some 5 := by kernel_rfl
theorem zc34vD : ((Try.prog.info? 34).bind (·.zero)).map (·.cells.toList) = some [.int .i64 0, .int .i64 0, .int .i64 0, .int .i64 0, .slice none 0 0, .int .i64 0, .int .i64 0, .bool false, .int .i64 0, .slice none 0 0, .slice none 0 0] := by kernel_rfl
theorem zc45vD : ((Try.prog.info? 45).bind (·.zero)).map (·.cells.toList) = some [.int .i64 0, .int .i64 0, .int .i64 0, .int .i64 0, .slice none 0 0] := by kernel_rfl

set_option maxRecDepth 100000
set_option maxHeartbeats 4000000
theorem listW_own (es : List (Int × List (Int × List Int))) (p0 : Option Addr) (c0 nn : Nat) (w0 : World) (h0 : Rd (fun _ => True) w0 (.slice p0 nn c0) (.l 2 (es.map wrD))) (hl : es.length ≤ 1000000) (hok : WrsOk es) :
   Calls Try.prog 57 #[.slice p0 nn c0, .func (.func 58) #[] #[]] w0 fun e w' => ∃ p c, e = .returned (.slice p (es.map wrD).length c) ∧ RowOk w0.heap.size (fun b => Out (fun _ => False) w0 b ∧ (Value.slice p (es.map wrD).length c).ownBlock ≠ some b) w' (.slice p (es.map wrD).length c) 55 2 (es.map wrD) ∧ Below w0.heap.size w0 w' := by
 obtain rfl : nn = es.length := by obtain ⟨pq, cq, hv, _⟩ := h0.l_shape; injection hv with _ e2 _; rw [List.length_map] at e2; exact e2
 refine enter (fn := Try.f57) Try.func57 rfl Try.ntmps57 rfl (fun a0 ha0 => ?_)
 simp only [List.zipIdx_cons, List.zipIdx_nil, List.map_cons, List.map_nil, Nat.reduceAdd, Nat.zero_add] at ha0
 have m0 := MemOk.start (fun _ => False) w0
 refine wp_seq_k (fun K0 hK0 => ?_)
 refine wp_region_lit ?_
 refine st_y ha0 rfl (y_assign ha0 rfl) ?_
 clear ha0 a0; intro a1 ha1
 refine wpList_nil ?_
 refine hK0 _ _ ?_; clear hK0; try clear K0
 refine wp_seq_k (fun K1 hK1 => ?_)
 refine wp_region_lit ?_
 refine st_y ha1 rfl (y_move ha1 rfl) ?_
 clear ha1 a1; intro a2 ha2
 refine st_y ha2 rfl (y_len ha2 rfl Try.underlying32) ?_
 clear ha2 a2; intro a3 ha3
 refine wpList_plain rfl (fun K hK => ?_)
 refine e_call ha3 Try.func74 rfl rfl rfl rfl (growW_any _ _ (by omega)) ?_
 rintro e w4 ⟨p4, c4, rfl, ho4, hb4⟩
 have m5 := m0.newR 3 hb4 (rowNil ho4)
 clear m0
 clear hb4 ho4
 refine ⟨_, rfl, fun a6 ha6 => ?_⟩; clear ha3 a3
 refine hK _ _ ?_; clear hK K
 refine st_y ha6 rfl (y_assign ha6 rfl) ?_
 clear ha6 a6; intro a7 ha7
 refine wpList_nil ?_
 refine hK1 _ _ ?_; clear hK1; try clear K1
 refine wp_seq_k (fun K2 hK2 => ?_)
 refine wp_seq_k (fun K3 hK3 => ?_)
 refine wp_region_lit ?_
 refine st_y ha7 rfl (y_move ha7 rfl) ?_
 clear ha7 a7; intro a8 ha8
 refine st_y ha8 rfl (y_len ha8 rfl Try.underlying32) ?_
 clear ha8 a8; intro a9 ha9
 refine st_y ha9 rfl (y_move ha9 rfl) ?_
 clear ha9 a9; intro a10 ha10
 refine wpList_nil ?_
 refine hK3 _ _ ?_; clear hK3; try clear K3
 refine wp_block ?_
 refine wp_loop_ghost (fun g a w => ∃ (k : Nat) (p : Option Addr) (c : Nat), k ≤ es.length ∧ g = es.length - k ∧ Has 25 [(1, .func (.func 58) #[] #[]), (5, .slice p ((es.take k).map wrD).length c), (11, .slice p0 es.length c0), (12, .int .i64 es.length), (13, .int .i64 k)] a ∧ MemOk (cn w0) w0 [(3, .row (.slice p ((es.take k).map wrD).length c) 55 2 ((es.take k).map wrD))] w) (es.length) ?_ ?_
 · exact ⟨0, _, _, Nat.zero_le _, rfl, ha10.only [1, 5, 11, 12, 13], m5.only [3]⟩
 ·
  clear ha10 m5
  rintro g a11 w11 ⟨k, p, c, hkl, hg, ha11, m11⟩
  refine wp_seq_k (fun K4 hK4 => ?_)
  refine wp_region_lit ?_
  refine st_y ha11 rfl (y_lss ha11 rfl rfl) ?_
  clear ha11 a11; intro a12 ha12
  refine wpList_nil ?_
  refine hK4 _ _ ?_; clear hK4; try clear K4
  refine wp_seq_k (fun K5 hK5 => ?_)
  refine bool_cases ha12 (t := 14) rfl (fun hb13 ha13 => ?_) (fun hb13 ha13 => ?_)
  ·
   clear ha12
   try simp only [Q1x, Q2x, Q3x, Q4x, Q5x, Q6x, Q7x, Q8x, Q9x, Q0x, Qax, Qbx] at hb13
   have hk : k < es.length := by omega
   obtain ⟨⟨xs, xl⟩, hes⟩ : ∃ e, es[k]? = some e := ⟨_, List.getElem?_eq_getElem hk⟩
   have hed := hok _ (List.mem_of_getElem? hes)
   dsimp only at hed
   refine wp_cond_true (ha13.ev (x := .tmp 14) rfl) ?_
   refine wp_skip ?_
   refine hK5 _ _ ?_; clear hK5; try clear K5
   refine wp_seq_k (fun K6 hK6 => ?_)
   refine wp_block ?_
   refine wp_seq_k (fun K7 hK7 => ?_)
   refine wp_region_lit ?_
   obtain ⟨gx14, ox14, vx14, hp14, hl14, hR14, hrg14⟩ := h0.extA (k) (r := [.v (.int .i64 xs), .l 2 (xl.map itD)]) (wrD_get hes)
   cases hp14; clear hl14
   rcases hR14 with _ | ⟨hd14_0, _ | ⟨hd14_1, _ | _⟩⟩
   obtain rfl := hd14_0.v_out
   clear hd14_0
   obtain ⟨p15, c15, hv15, hw15⟩ := hd14_1.l_shape; subst hv15
   refine st_y ha13 rfl (y_idx ha13 rfl rfl Try.underlying32 sz55lo (k) rfl hk) ?_
   clear ha13 a12; intro a16 ha16
   refine st_y ha16 rfl (y_loadAt ha16 (hrg14 m11 rfl) rfl Try.underlying55 rfl sz55lo) ?_
   clear ha16 a16; intro a17 ha17
   refine wpList_plain rfl (fun K hK => ?_)
   refine e_alloc ha17 m11 101 zc55lo rfl ?_
   clear ha17 a17 m11; intro g18 a19 w19 ha19 m19 hB19 hg19
   clear hB19 hg19
   refine hK _ _ ?_; clear hK K
   refine wpList_plain rfl (fun K hK => ?_)
   refine e_storeW ha19 m19 101 rfl rfl rfl rfl rfl sz55lo ?_
   clear m19; intro w20 m20 hB20
   clear hB20
   refine hK _ _ ?_; clear hK K
   refine wpList_nil ?_
   refine hK7 _ _ ?_; clear hK7; try clear K7
   refine wp_region_lit ?_
   refine st_y ha19 rfl (y_move ha19 rfl) ?_
   clear ha19 a19; intro a21 ha21
   refine st_y ha21 rfl (y_move ha21 rfl) ?_
   clear ha21 a21; intro a22 ha22
   refine st_y ha22 rfl (y_loadBR ha22 m20 (i := 101) rfl rfl Try.underlying55 rfl sz55lo (by simp) (by dsimp only [List.drop, List.take] <;> rfl)) ?_
   clear ha22 a22; intro a23 ha23
   refine wpList_plain rfl (fun K hK => ?_)
   refine e_callV ha23 rfl Try.func58 rfl rfl rfl rfl (write_any xs xl _ _ _ _ ((hd14_1.now' m20 rfl).any) hed.1 hed.2) ?_
   rintro e w24 ⟨p24, c24, rfl, hd24, hb24⟩
   have m25 := m20.callF 102 rfl hb24 hd24
   clear m20
   clear hb24 hd24
   refine ⟨_, rfl, fun a26 ha26 => ?_⟩; clear ha23 a23
   refine hK _ _ ?_; clear hK K
   refine wpList_plain rfl (fun K hK => ?_)
   refine e_litR ha26 m25 103 (mm := 2) rfl (.cons rfl rfl (.cons (.v _) (.cons (m25.rd (i := 102) rfl) .nil)) <| .nil) Try.underlying32 inf55lo rfl rfl rfl rfl rfl ?_
   clear ha26 a26 m25; intro g27 a28 w28 ha28 m28
   refine hK _ _ ?_; clear hK K
   have m30 := m28.freezeR 103 rfl; clear m28
   refine wpList_plain rfl (fun K hK => ?_)
   refine e_appR ha28 m30 3 rfl rfl rfl (m30.rd (i := 103) rfl) Try.underlying32 inf55lo rfl rfl (by decide) (by simp; omega) rfl ?_
   clear ha28 a28 m30; intro p29 c29 a31 w31 ha31 m31
   refine hK _ _ ?_; clear hK K
   refine st_y ha31 rfl (y_assign ha31 rfl) ?_
   clear ha31 a31; intro a32 ha32
   refine wpList_nil ?_
   refine hK6 _ _ ?_; clear hK6; try clear K6
   have ha33 : Has 25 [(1, _), (5, _), (11, _), (12, _), (13, _)] a32 := ha32.only [1, 5, 11, 12, 13]; clear ha32
   refine wp_region_lit ?_
   refine st_y ha33 rfl (y_add ha33 rfl rfl (r := ((k + 1 : Nat) : Int)) (by rw [IntWalk.i64_in _ (by omega)]; omega)) ?_
   clear ha33 a32; intro a34 ha34
   refine st_y ha34 rfl (y_move ha34 rfl) ?_
   clear ha34 a34; intro a35 ha35
   refine wpList_nil ?_
   show ∃ n', n' < _ ∧ _
   have hE : (es.take k).map wrD ++ [[D.v (.int .i64 xs), .l 2 (xl.map itD)]] = (es.take (k + 1)).map wrD := by rw [take_snoc hes, List.map_append]; rfl
   rw [hE] at m31 ha35
   exact ⟨es.length - (k + 1), by omega, k + 1, _, _, by omega, rfl, ha35.only [1, 5, 11, 12, 13], m31.only [3]⟩
  ·
   clear ha12
   try simp only [Q1x, Q2x, Q3x, Q4x, Q5x, Q6x, Q7x, Q8x, Q9x, Q0x, Qax, Qbx] at hb13
   obtain rfl : k = es.length := by omega
   refine wp_cond_false (ha13.ev (x := .tmp 14) rfl) ?_
   refine wp_exit ?_
   refine hK2 _ _ ?_; clear hK2; try clear K2
   refine wp_seq_k (fun K8 hK8 => ?_)
   refine wp_region_lit ?_
   refine st_y ha13 rfl (y_move ha13 rfl) ?_
   clear ha13 a12; intro a36 ha36
   refine st_y ha36 rfl (y_assign ha36 rfl) ?_
   clear ha36 a36; intro a37 ha37
   refine wpList_nil ?_
   refine hK8 _ _ ?_; clear hK8; try clear K8
   refine wp_ret ?_
   try dsimp only [Exit.then, Exit.inBlock]
   refine (ret1 (fn := Try.f57) ha37 rfl rfl ?_)
   rw [List.take_length] at *
   exact ⟨_, _, rfl, m11.outR (i := 3) rfl, m11.below⟩
theorem volcopy_fr (X : Cx) (vo bl sz pe to ne fl : Int) (hi : Bool) (place pins : List Int) (ws : List (Int × List (Int × List Int))) (pp pn pw : Option Addr) (cp cn9 cw : Nat) (w0 : World) (hn : place.length ≤ 1000000) (hp : pins.length ≤ 1000000) (hl : ws.length ≤ 1000000) (hok : WrsOk ws) (m0 : MemOk X w0 [(1, .dat (.slice pp place.length cp) (.ns .i64 place)), (2, .dat (.slice pn pins.length cn9) (.ns .i64 pins)), (3, .dat (.slice pw (ws.map wrD).length cw) (.l 2 (ws.map wrD)))] w0) :
   Calls Try.prog 42 #[.agg #[.int .i64 vo, .int .i64 bl, .int .i64 sz, .int .i64 pe, .slice pp place.length cp, .int .i64 to, .int .i64 ne, .bool hi, .int .i64 fl, .slice pn pins.length cn9, .slice pw (ws.map wrD).length cw]] w0 fun e w' => ∃ p1 c1 p2 c2 p3 c3, e = .returned (.agg #[.int .i64 vo, .int .i64 bl, .int .i64 sz, .int .i64 pe, .slice p1 place.length c1, .int .i64 to, .int .i64 ne, .bool hi, .int .i64 fl, .slice p2 pins.length c2, .slice p3 (ws.map wrD).length c3]) ∧ MemOk X w0 [(1, .dat (.slice pp place.length cp) (.ns .i64 place)), (2, .dat (.slice pn pins.length cn9) (.ns .i64 pins)), (3, .dat (.slice pw (ws.map wrD).length cw) (.l 2 (ws.map wrD))), (4, .dat (.slice p1 place.length c1) (.ns .i64 place)), (5, .dat (.slice p2 pins.length c2) (.ns .i64 pins)), (6, .seg (.slice p3 (ws.map wrD).length c3) 55 2 (ws.map wrD))] w' := by
 refine enter (fn := Try.f42) Try.func42 rfl Try.ntmps42 rfl (fun a0 ha0 => ?_)
 simp only [List.zipIdx_cons, List.zipIdx_nil, List.map_cons, List.map_nil, Nat.reduceAdd, Nat.zero_add] at ha0
 refine wp_seq_k (fun K0 hK0 => ?_)
 refine wp_region_lit ?_
 refine wpList_plain rfl (fun K hK => ?_)
 refine e_box ha0 m0 20 (cs := [_, _, _, _, _, _, _, _, _, _, _]) rfl rfl rfl ?_
 clear ha0 a0 m0; intro g1 a2 w2 ha2 m2 hB2 hg2
 clear hB2 hg2
 refine hK _ _ ?_; clear hK K
 refine wpList_plain rfl (fun K hK => ?_)
 refine e_alloc ha2 m2 21 zc34vf rfl ?_
 clear ha2 a2 m2; intro g3 a4 w4 ha4 m4 hB4 hg4
 clear hB4 hg4
 refine hK _ _ ?_; clear hK K
 refine wpList_nil ?_
 refine hK0 _ _ ?_; clear hK0; try clear K0
 refine wp_seq_k (fun K1 hK1 => ?_)
 have m5 : MemOk _ _ [(1, _), (2, _), (3, _), (20, _), (21, _)] _ := m4.only [1, 2, 3, 20, 21]; clear m4
 refine region_m 10 (B := [(1, _), (2, _), (3, _), (20, _), (21, _)]) (m5.to ⟨il, il, il, il, il, trivial⟩) m5 (by kernel_rfl) (fun w6 mB6 m6 => ?_); clear m5 mB6
 refine dyn 0 ha4 rfl rfl (m6.to ⟨il, il, il, il, il, trivial⟩) (fun W => y_fieldAddr ha4 (off := 4) rfl Try.underlying34 rfl (s := 0) (by kernel_rfl) rfl) ?_
 clear ha4 a4; intro a7 ha7
 refine dr 1 ha7 rfl rfl (m6.to ⟨il, il, il, il, il, trivial⟩) (fun W hW => y_loadB1 ha7 hW (i := 20) rfl rfl rfl Try.underlying22 rfl) ?_
 clear ha7 a7; intro a8 ha8
 refine dyn 3 ha8 rfl rfl (m6.to ⟨il, il, il, il, il, trivial⟩) (fun W => y_fieldAddr ha8 (off := 9) rfl Try.underlying34 rfl (s := 0) (by kernel_rfl) rfl) ?_
 clear ha8 a8; intro a9 ha9
 refine dr 4 ha9 rfl rfl (m6.to ⟨il, il, il, il, il, trivial⟩) (fun W hW => y_loadB1 ha9 hW (i := 20) rfl rfl rfl Try.underlying31 rfl) ?_
 clear ha9 a9; intro a10 ha10
 refine dyn 6 ha10 rfl rfl (m6.to ⟨il, il, il, il, il, trivial⟩) (fun W => y_fieldAddr ha10 (off := 10) rfl Try.underlying34 rfl (s := 0) (by kernel_rfl) rfl) ?_
 clear ha10 a10; intro a11 ha11
 refine dr 7 ha11 rfl rfl (m6.to ⟨il, il, il, il, il, trivial⟩) (fun W hW => y_loadB1 ha11 hW (i := 20) rfl rfl rfl Try.underlying32 rfl) ?_
 clear ha11 a11; intro a12 ha12
 refine stepE_only 2 rfl (by kernel_rfl) rfl (fun K hK => ?_)
 refine e_call ha12 Try.func37 rfl rfl rfl rfl (plainI_any place _ _ _ ((m6.rd (i := 1) rfl).any) hn) ?_
 rintro e w13 ⟨p13, c13, rfl, hd13, hb13⟩
 have m14 := m6.callF 22 rfl hb13 hd13
 clear m6
 clear hb13 hd13
 refine ⟨_, rfl, fun a15 ha15 => ?_⟩; clear ha12 a12
 refine hK _ _ (m14.to ⟨il, il, il, il, il, trivial⟩) ?_; clear hK K
 refine dyn 9 ha15 rfl rfl (m14.to ⟨il, il, il, il, il, trivial⟩) (fun W => y_fieldAddr ha15 (off := 4) rfl Try.underlying34 rfl (s := 0) (by kernel_rfl) rfl) ?_
 clear ha15 a15; intro a16 ha16
 refine stepE_only 5 rfl (by kernel_rfl) rfl (fun K hK => ?_)
 refine e_call ha16 Try.func56 rfl rfl rfl rfl (plain64_any pins _ _ _ ((m14.rd (i := 2) rfl).any) hp) ?_
 rintro e w17 ⟨p17, c17, rfl, hd17, hb17⟩
 have m18 := m14.callF 23 rfl hb17 hd17
 clear m14
 clear hb17 hd17
 refine ⟨_, rfl, fun a19 ha19 => ?_⟩; clear ha16 a16
 refine hK _ _ (m18.to ⟨il, il, il, il, il, trivial⟩) ?_; clear hK K
 refine stepE_only 8 rfl (by kernel_rfl) rfl (fun K hK => ?_)
 refine e_call ha19 Try.func57 rfl rfl rfl rfl (listW_own ws _ _ _ _ ((m18.rd (i := 3) rfl).any) hl hok) ?_
 rintro e w20 ⟨p20, c20, rfl, ho20, hb20⟩
 have m21 := m18.callR 24 hb20 (ho20.cast (fun b h => ⟨h.1.elim False.elim .inr, h.2⟩))
 clear m18
 have m22 := m21.rowS 24 rfl
 clear m21
 clear hb20 ho20
 refine ⟨_, rfl, fun a23 ha23 => ?_⟩; clear ha19 a19
 refine hK _ _ (m22.to ⟨il, il, il, il, il, trivial⟩) ?_; clear hK K
 refine stepE_end 10 rfl (by kernel_rfl) rfl (by rfl) (fun K hK => ?_)
 refine e_store1 ha23 m22 20 rfl rfl rfl rfl rfl sz22vf (by dsimp only [List.set] <;> rfl) ?_
 clear m22; intro w24 m24 hB24
 clear hB24
 refine hK _ _ ?_; clear hK K
 refine dyp 11 ha23 rfl rfl (fun W => y_fieldAddr ha23 (off := 9) rfl Try.underlying34 rfl (s := 0) (by kernel_rfl) rfl) ?_
 clear ha23 a23; intro a25 ha25
 refine stepE_end 12 rfl (by kernel_rfl) rfl (by rfl) (fun K hK => ?_)
 refine e_store1 ha25 m24 20 rfl rfl rfl rfl rfl sz31vf (by dsimp only [List.set] <;> rfl) ?_
 clear m24; intro w26 m26 hB26
 clear hB26
 refine hK _ _ ?_; clear hK K
 refine dyp 13 ha25 rfl rfl (fun W => y_fieldAddr ha25 (off := 10) rfl Try.underlying34 rfl (s := 0) (by kernel_rfl) rfl) ?_
 clear ha25 a25; intro a27 ha27
 refine stepE_end 14 rfl (by kernel_rfl) rfl (by rfl) (fun K hK => ?_)
 refine e_store1 ha27 m26 20 rfl rfl rfl rfl rfl sz32vf (by dsimp only [List.set] <;> rfl) ?_
 clear m26; intro w28 m28 hB28
 clear hB28
 refine hK _ _ ?_; clear hK K
 refine wpAnyE_done (by kernel_rfl) ?_ _
 refine hK1 _ _ ?_; clear hK1; try clear K1
 refine wp_seq_k (fun K2 hK2 => ?_)
 have ha29 : Has 16 [(1, _), (2, _)] a27 := ha27.only [1, 2]; clear ha27
 refine wp_region_lit ?_
 refine st_y ha29 rfl (y_loadBR ha29 m28 (i := 20) rfl rfl Try.underlying34 rfl sz34vf (by simp) (by dsimp only [List.drop, List.take] <;> rfl)) ?_
 clear ha29 a27; intro a30 ha30
 refine wpList_plain rfl (fun K hK => ?_)
 refine e_storeW ha30 m28 21 rfl rfl rfl rfl rfl sz34vf ?_
 clear m28; intro w31 m31 hB31
 clear hB31
 refine hK _ _ ?_; clear hK K
 refine wpList_nil ?_
 refine hK2 _ _ ?_; clear hK2; try clear K2
 refine wp_ret ?_
 try dsimp only [Exit.then, Exit.inBlock]
 refine (retC (fn := Try.f42) ha30 m31 (i := 21) rfl rfl rfl Try.underlying34 rfl sz34vf ?_)
 exact ⟨_, _, _, _, _, _, rfl, m31.ren [(1, 1), (2, 2), (3, 3), (4, 22), (5, 23), (6, 24)] (by decide)⟩
theorem vwrite_ok (X : Cx) (B : Nat) (vo bl sz pe to ne fl : Int) (hi : Bool) (place pins : List Int) (ws : List (Int × List (Int × List Int))) (items : List (Int × List Int)) (pp pn pw : Option Addr) (cp cn9 cw : Nat) (pi : Option Addr) (ci : Nat) (w0 : World) (hl : ws.length ≤ 900000) (hI : ItemsR bl sz items) (hio : ItsOk items) (m0 : MemOk X w0 [(1, .box B 34 [.int .i64 vo, .int .i64 bl, .int .i64 sz, .int .i64 pe, .slice pp place.length cp, .int .i64 to, .int .i64 ne, .bool hi, .int .i64 fl, .slice pn pins.length cn9, .slice pw (ws.map wrD).length cw]), (2, .seg (.slice pw (ws.map wrD).length cw) 55 2 (ws.map wrD)), (3, .dat (.slice pi items.length ci) (.l 2 (items.map itD)))] w0) :
   Calls Try.prog 76 #[.pointer (some ⟨B, 0, none⟩), .slice pi items.length ci] w0 fun e w' => ∃ pw' cw', e = .returned (.int .i64 0) ∧ MemOk X w0 [(1, .box B 34 [.int .i64 vo, .int .i64 bl, .int .i64 sz, .int .i64 pe, .slice pp place.length cp, .int .i64 to, .int .i64 ne, .bool hi, .int .i64 fl, .slice pn pins.length cn9, .slice pw' ((ws ++ [((ws.length : Int) + 1, items)]).map wrD).length cw']), (2, .seg (.slice pw' ((ws ++ [((ws.length : Int) + 1, items)]).map wrD).length cw') 55 2 ((ws ++ [((ws.length : Int) + 1, items)]).map wrD)), (3, .dat (.slice pi items.length ci) (.l 2 (items.map itD)))] w' := by
 refine enter (fn := Try.f76) Try.func76 rfl Try.ntmps76 rfl (fun a0 ha0 => ?_)
 simp only [List.zipIdx_cons, List.zipIdx_nil, List.map_cons, List.map_nil, Nat.reduceAdd, Nat.zero_add] at ha0
 refine wp_seq_k (fun K0 hK0 => ?_)
 refine wp_region_lit ?_
 refine st_y ha0 rfl (y_assign ha0 rfl) ?_
 clear ha0 a0; intro a1 ha1
 refine wpList_nil ?_
 refine hK0 _ _ ?_; clear hK0; try clear K0
 refine wp_seq_k (fun K1 hK1 => ?_)
 refine wp_seq_k (fun K2 hK2 => ?_)
 have m2 : MemOk _ _ [(1, _), (2, _), (3, _)] _ := m0.only [1, 2, 3]; clear m0
 refine region_m 11 (B := [(1, _), (2, _), (3, _)]) (m2.to ⟨il, il, il, trivial⟩) m2 (by kernel_rfl) (fun w3 mB3 m3 => ?_); clear m2 mB3
 refine dyn 0 ha1 rfl rfl (m3.to ⟨il, il, il, trivial⟩) (fun W => y_move ha1 rfl) ?_
 clear ha1 a1; intro a4 ha4
 refine dyn 1 ha4 rfl rfl (m3.to ⟨il, il, il, trivial⟩) (fun W => y_nilCheck ha4 rfl) ?_
 clear ha4 a4; intro a5 ha5
 refine dyn 2 ha5 rfl rfl (m3.to ⟨il, il, il, trivial⟩) (fun W => y_fieldAddr ha5 (off := 1) rfl Try.underlying34 rfl (s := 0) (by kernel_rfl) rfl) ?_
 clear ha5 a5; intro a6 ha6
 refine dh 3 ha6 rfl rfl (m3.to ⟨il, il, il, trivial⟩) (fun W hW => y_loadB1 ha6 hW (i := 1) rfl rfl rfl Try.underlying3 rfl) ?_
 clear ha6 a6; intro a7 ha7
 refine dyn 4 ha7 rfl rfl (m3.to ⟨il, il, il, trivial⟩) (fun W => y_move ha7 rfl) ?_
 clear ha7 a7; intro a8 ha8
 refine dyn 5 ha8 rfl rfl (m3.to ⟨il, il, il, trivial⟩) (fun W => y_nilCheck ha8 rfl) ?_
 clear ha8 a8; intro a9 ha9
 refine dyn 6 ha9 rfl rfl (m3.to ⟨il, il, il, trivial⟩) (fun W => y_fieldAddr ha9 (off := 2) rfl Try.underlying34 rfl (s := 0) (by kernel_rfl) rfl) ?_
 clear ha9 a9; intro a10 ha10
 refine dh 7 ha10 rfl rfl (m3.to ⟨il, il, il, trivial⟩) (fun W hW => y_loadB1 ha10 hW (i := 1) rfl rfl rfl Try.underlying3 rfl) ?_
 clear ha10 a10; intro a11 ha11
 refine dyn 8 ha11 rfl rfl (m3.to ⟨il, il, il, trivial⟩) (fun W => y_move ha11 rfl) ?_
 clear ha11 a11; intro a12 ha12
 refine stepE_only 9 rfl (by kernel_rfl) rfl (fun K hK => ?_)
 refine e_call ha12 Try.func28 rfl rfl rfl rfl (vitems_nn _ _ items _ _ _ _ ((m3.rd (i := 3) rfl).any) (by have := hI.2.1; omega)) ?_
 rintro e w13 ⟨ib, rfl, hib, hb13⟩
 have m14 := m3.later hb13
 clear m3
 clear hb13
 refine ⟨_, rfl, fun a15 ha15 => ?_⟩; clear ha12 a12
 refine hK _ _ (m14.to ⟨il, il, il, trivial⟩) ?_; clear hK K
 refine dyn 10 ha15 rfl rfl (m14.to ⟨il, il, il, trivial⟩) (fun W => y_not ha15 rfl) ?_
 clear ha15 a15; intro a16 ha16
 refine wpAnyE_done (by kernel_rfl) ?_ _
 refine hK2 _ _ ?_; clear hK2; try clear K2
 refine bool_cases ha16 (t := 15) rfl (fun hb17 ha17 => ?_) (fun hb17 ha17 => ?_)
 · exact absurd hb17 (by simp [hib.2 hI])
 clear ha16 hb17
 refine wp_cond_false (ha17.ev (x := .tmp 15) rfl) ?_
 refine wp_skip ?_
 refine hK1 _ _ ?_; clear hK1; try clear K1
 refine wp_seq_k (fun K3 hK3 => ?_)
 have ha18 : Has 33 [(0, _), (1, _), (4, _)] a16 := ha17.only [0, 1, 4]; clear ha17
 have m19 : MemOk _ _ [(1, _), (2, _), (3, _)] _ := m14.only [1, 2, 3]; clear m14
 refine region_m 14 (B := [(1, _), (2, _), (3, _)]) (m19.to ⟨il, il, il, trivial⟩) m19 (by kernel_rfl) (fun w20 mB20 m20 => ?_); clear m19 mB20
 refine dyn 0 ha18 rfl rfl (m20.to ⟨il, il, il, trivial⟩) (fun W => y_move ha18 rfl) ?_
 clear ha18 a16; intro a21 ha21
 refine dyn 1 ha21 rfl rfl (m20.to ⟨il, il, il, trivial⟩) (fun W => y_move ha21 rfl) ?_
 clear ha21 a21; intro a22 ha22
 refine dyn 2 ha22 rfl rfl (m20.to ⟨il, il, il, trivial⟩) (fun W => y_nilCheck ha22 rfl) ?_
 clear ha22 a22; intro a23 ha23
 refine dyn 3 ha23 rfl rfl (m20.to ⟨il, il, il, trivial⟩) (fun W => y_fieldAddr ha23 (off := 10) rfl Try.underlying34 rfl (s := 0) (by kernel_rfl) rfl) ?_
 clear ha23 a23; intro a24 ha24
 refine dr 4 ha24 rfl rfl (m20.to ⟨il, il, il, trivial⟩) (fun W hW => y_loadB1 ha24 hW (i := 1) rfl rfl rfl Try.underlying32 rfl) ?_
 clear ha24 a24; intro a25 ha25
 refine dyn 5 ha25 rfl rfl (m20.to ⟨il, il, il, trivial⟩) (fun W => y_move ha25 rfl) ?_
 clear ha25 a25; intro a26 ha26
 refine dyn 6 ha26 rfl rfl (m20.to ⟨il, il, il, trivial⟩) (fun W => y_nilCheck ha26 rfl) ?_
 clear ha26 a26; intro a27 ha27
 refine dr 7 ha27 rfl rfl (m20.to ⟨il, il, il, trivial⟩) (fun W hW => y_loadBR ha27 hW (i := 1) rfl rfl Try.underlying34 rfl sz34vw (by simp) (by dsimp only [List.drop, List.take] <;> rfl)) ?_
 clear ha27 a27; intro a28 ha28
 refine dyn 10 ha28 rfl rfl (m20.to ⟨il, il, il, trivial⟩) (fun W => y_move ha28 rfl) ?_
 clear ha28 a28; intro a29 ha29
 refine stepE_only 8 rfl (by kernel_rfl) rfl (fun K hK => ?_)
 refine e_call ha29 Try.func20 rfl rfl rfl rfl (vlen_any _ _ _ _ _ _ _ _ _ _ _ _ _ _ _ _ _ _) ?_
 rintro e w30 ⟨rfl, hb30⟩
 have m31 := m20.later hb30
 clear m20
 clear hb30
 refine ⟨_, rfl, fun a32 ha32 => ?_⟩; clear ha29 a29
 refine hK _ _ (m31.to ⟨il, il, il, trivial⟩) ?_; clear hK K
 refine dyn 9 ha32 rfl rfl (m31.to ⟨il, il, il, trivial⟩) (fun W => y_add ha32 rfl rfl (r := (ws.length : Int) + 1) (by rw [List.length_map]; exact IntWalk.i64_in _ (by omega))) ?_
 clear ha32 a32; intro a33 ha33
 refine stepE_only 11 rfl (by kernel_rfl) rfl (fun K hK => ?_)
 refine e_call ha33 Try.func75 rfl rfl rfl rfl (items_any items _ _ _ _ ((m31.rd (i := 3) rfl).any) (by have := hI.2.1; omega) hio) ?_
 rintro e w34 ⟨p34, c34, rfl, hd34, hb34⟩
 have m35 := m31.callF 20 rfl hb34 hd34
 clear m31
 clear hb34 hd34
 refine ⟨_, rfl, fun a36 ha36 => ?_⟩; clear ha33 a33
 refine hK _ _ (m35.to ⟨il, il, il, trivial⟩) ?_; clear hK K
 refine dyn 12 ha36 rfl rfl (m35.to ⟨il, il, il, trivial⟩) (fun W => y_build ha36 rfl zc55vw fl55vw rfl (by dsimp only [setL, List.set] <;> rfl)) ?_
 clear ha36 a36; intro a37 ha37
 refine stepE_only 13 rfl (by kernel_rfl) rfl (fun K hK => ?_)
 refine e_litR ha37 m35 21 (mm := 2) rfl (.cons rfl rfl (.cons (.v _) (.cons (m35.rd (i := 20) rfl) .nil)) <| .nil) Try.underlying32 inf55vw rfl rfl rfl rfl rfl ?_
 clear ha37 a37 m35; intro g38 a39 w39 ha39 m39
 refine hK _ _ (m39.to ⟨il, il, il, trivial⟩) ?_; clear hK K
 have m41 := m39.freezeR 21 rfl; clear m39
 refine stepE_end 14 rfl (by kernel_rfl) rfl (by rfl) (fun K hK => ?_)
 refine e_appSA ha39 m41 2 rfl rfl rfl (m41.rd (i := 21) rfl).cells Try.underlying32 inf55vw rfl rfl (by decide) (by simp; omega) rfl ?_
 clear ha39 a39 m41; intro p40 c40 a42 w42 ha42 m42
 refine hK _ _ ?_; clear hK K
 refine dyp 15 ha42 rfl rfl (fun W => y_nilCheck ha42 rfl) ?_
 clear ha42 a42; intro a43 ha43
 refine dyp 16 ha43 rfl rfl (fun W => y_fieldAddr ha43 (off := 10) rfl Try.underlying34 rfl (s := 0) (by kernel_rfl) rfl) ?_
 clear ha43 a43; intro a44 ha44
 refine stepE_end 17 rfl (by kernel_rfl) rfl (by rfl) (fun K hK => ?_)
 refine e_store1 ha44 m42 1 rfl rfl rfl rfl rfl sz32vw (by dsimp only [List.set] <;> rfl) ?_
 clear m42; intro w45 m45 hB45
 clear hB45
 refine hK _ _ ?_; clear hK K
 refine wpAnyE_done (by kernel_rfl) ?_ _
 refine hK3 _ _ ?_; clear hK3; try clear K3
 refine wp_seq_k (fun K4 hK4 => ?_)
 have ha46 : Has 33 [(4, _)] a44 := ha44.only [4]; clear ha44
 refine wp_region_lit ?_
 refine st_y ha46 rfl (y_assign ha46 rfl) ?_
 clear ha46 a44; intro a47 ha47
 refine wpList_nil ?_
 refine hK4 _ _ ?_; clear hK4; try clear K4
 refine wp_ret ?_
 try dsimp only [Exit.then, Exit.inBlock]
 refine (ret1 (fn := Try.f76) ha47 rfl rfl ?_)
 have hE : ws.map wrD ++ [[D.v (.int .i64 ((ws.length : Int) + 1)), .l 2 (items.map itD)]] = (ws ++ [((ws.length : Int) + 1, items)]).map wrD := by rw [List.map_append]; rfl
 rw [hE] at m45
 exact ⟨_, _, rfl, m45.only [1, 2, 3]⟩
theorem vput_ok (X : Cx) (B : Nat) (vo bl sz pe to ne fl : Int) (place pins : List Int) (ws : List (Int × List (Int × List Int))) (items : List (Int × List Int)) (pp pn pw : Option Addr) (cp cn9 cw : Nat) (pi : Option Addr) (ci : Nat) (w0 : World) (hl : ws.length ≤ 900000) (hI : ItemsR bl sz items) (hio : ItsOk items) (m0 : MemOk X w0 [(1, .box B 34 [.int .i64 vo, .int .i64 bl, .int .i64 sz, .int .i64 pe, .slice pp place.length cp, .int .i64 to, .int .i64 ne, .bool false, .int .i64 fl, .slice pn pins.length cn9, .slice pw (ws.map wrD).length cw]), (2, .seg (.slice pw (ws.map wrD).length cw) 55 2 (ws.map wrD)), (3, .dat (.slice pi items.length ci) (.l 2 (items.map itD)))] w0) :
   Calls Try.prog 59 #[.pointer (some ⟨B, 0, none⟩), .slice pi items.length ci] w0 fun e w' => ∃ pw' cw', e = .returned (.int .i64 0) ∧ MemOk X w0 [(1, .box B 34 [.int .i64 vo, .int .i64 bl, .int .i64 sz, .int .i64 pe, .slice pp place.length cp, .int .i64 to, .int .i64 ne, .bool false, .int .i64 fl, .slice pn pins.length cn9, .slice pw' ((ws ++ [((ws.length : Int) + 1, items)]).map wrD).length cw']), (2, .seg (.slice pw' ((ws ++ [((ws.length : Int) + 1, items)]).map wrD).length cw') 55 2 ((ws ++ [((ws.length : Int) + 1, items)]).map wrD)), (3, .dat (.slice pi items.length ci) (.l 2 (items.map itD)))] w' := by
 refine enter (fn := Try.f59) Try.func59 rfl Try.ntmps59 rfl (fun a0 ha0 => ?_)
 simp only [List.zipIdx_cons, List.zipIdx_nil, List.map_cons, List.map_nil, Nat.reduceAdd, Nat.zero_add] at ha0
 refine wp_seq_k (fun K0 hK0 => ?_)
 refine wp_region_lit ?_
 refine st_y ha0 rfl (y_assign ha0 rfl) ?_
 clear ha0 a0; intro a1 ha1
 refine wpList_nil ?_
 refine hK0 _ _ ?_; clear hK0; try clear K0
 refine wp_seq_k (fun K1 hK1 => ?_)
 refine wp_seq_k (fun K2 hK2 => ?_)
 refine wp_region_lit ?_
 refine st_y ha1 rfl (y_move ha1 rfl) ?_
 clear ha1 a1; intro a2 ha2
 refine st_y ha2 rfl (y_nilCheck ha2 rfl) ?_
 clear ha2 a2; intro a3 ha3
 refine st_y ha3 rfl (y_fieldAddr ha3 (off := 7) rfl Try.underlying34 rfl (s := 0) (by kernel_rfl) rfl) ?_
 clear ha3 a3; intro a4 ha4
 refine st_y ha4 rfl (y_loadB1 ha4 m0 (i := 1) rfl rfl rfl Try.underlying4 rfl) ?_
 clear ha4 a4; intro a5 ha5
 refine wpList_nil ?_
 refine hK2 _ _ ?_; clear hK2; try clear K2
 refine wp_cond_false (ha5.ev (x := .tmp 8) rfl) ?_
 refine wp_skip ?_
 refine hK1 _ _ ?_; clear hK1; try clear K1
 refine wp_seq_k (fun K3 hK3 => ?_)
 refine wp_region_lit ?_
 refine st_y ha5 rfl (y_move ha5 rfl) ?_
 clear ha5 a5; intro a6 ha6
 refine st_y ha6 rfl (y_move ha6 rfl) ?_
 clear ha6 a6; intro a7 ha7
 refine wpList_plain rfl (fun K hK => ?_)
 refine e_call ha7 Try.func76 rfl rfl rfl rfl (vwrite_ok _ _ _ _ _ _ _ _ _ _ place pins ws items _ _ _ _ _ _ _ _ _ hl hI hio (m0.into [(1, 1), (2, 2), (3, 3)] (by decide) rfl)) ?_
 rintro e w8 ⟨pw8, cw8, rfl, hm8⟩
 have mx8 := m0.back hm8 [(1, 1), (2, 2), (3, 3)] (by decide); clear hm8 m0
 have m8 : MemOk _ _ [(1, _), (2, _), (3, _)] _ := mx8.only [1, 2, 3]; clear mx8
 refine ⟨_, rfl, fun a9 ha9 => ?_⟩; clear ha7 a7
 refine hK _ _ ?_; clear hK K
 refine st_y ha9 rfl (y_assign ha9 rfl) ?_
 clear ha9 a9; intro a10 ha10
 refine wpList_nil ?_
 refine hK3 _ _ ?_; clear hK3; try clear K3
 refine wp_ret ?_
 try dsimp only [Exit.then, Exit.inBlock]
 refine (ret1 (fn := Try.f59) ha10 rfl rfl ?_)
 exact ⟨_, _, rfl, m8.only [1, 2, 3]⟩
theorem vdo_put (X : Cx) (B : Nat) (vo bl sz pe to ne fl : Int) (place pins : List Int) (ws : List (Int × List (Int × List Int))) (items : List (Int × List Int)) (pp pn pw : Option Addr) (cp cn9 cw : Nat) (pi : Option Addr) (ci : Nat) (v1 v2 v3 v4 v5 v6 v7 : Int) (q1 : Option Addr) (n1 c1 : Nat) (w0 : World) (hl : ws.length ≤ 900000) (hI : ItemsR bl sz items) (hio : ItsOk items) (m0 : MemOk X w0 [(1, .box B 34 [.int .i64 vo, .int .i64 bl, .int .i64 sz, .int .i64 pe, .slice pp place.length cp, .int .i64 to, .int .i64 ne, .bool false, .int .i64 fl, .slice pn pins.length cn9, .slice pw (ws.map wrD).length cw]), (2, .seg (.slice pw (ws.map wrD).length cw) 55 2 (ws.map wrD)), (3, .dat (.slice pi items.length ci) (.l 2 (items.map itD)))] w0) :
   Calls Try.prog 43 #[.pointer (some ⟨B, 0, none⟩), .agg #[.int .i64 2, .int .i64 v1, .int .i64 v2, .int .i64 v3, .int .i64 v4, .slice q1 n1 c1, .int .i64 v5, .int .i64 v6, .int .i64 v7, .slice pi items.length ci]] w0 fun e w' => ∃ pw' cw', e = .returned (.int .i64 0) ∧ MemOk X w0 [(1, .box B 34 [.int .i64 vo, .int .i64 bl, .int .i64 sz, .int .i64 pe, .slice pp place.length cp, .int .i64 to, .int .i64 ne, .bool false, .int .i64 fl, .slice pn pins.length cn9, .slice pw' ((ws ++ [((ws.length : Int) + 1, items)]).map wrD).length cw']), (2, .seg (.slice pw' ((ws ++ [((ws.length : Int) + 1, items)]).map wrD).length cw') 55 2 ((ws ++ [((ws.length : Int) + 1, items)]).map wrD)), (3, .dat (.slice pi items.length ci) (.l 2 (items.map itD)))] w' := by
 refine enter (fn := Try.f43) Try.func43 rfl Try.ntmps43 rfl (fun a0 ha0 => ?_)
 simp only [List.zipIdx_cons, List.zipIdx_nil, List.map_cons, List.map_nil, Nat.reduceAdd, Nat.zero_add] at ha0
 refine wp_seq_k (fun K0 hK0 => ?_)
 refine wp_region_lit ?_
 refine wpList_plain rfl (fun K hK => ?_)
 refine e_box ha0 m0 20 (cs := [_, _, _, _, _, _, _, _, _, _]) rfl rfl rfl ?_
 clear ha0 a0 m0; intro g1 a2 w2 ha2 m2 hB2 hg2
 clear hB2 hg2
 refine hK _ _ ?_; clear hK K
 refine st_y ha2 rfl (y_assign ha2 rfl) ?_
 clear ha2 a2; intro a3 ha3
 refine wpList_nil ?_
 refine hK0 _ _ ?_; clear hK0; try clear K0
 refine wp_seq_k (fun K1 hK1 => ?_)
 refine wp_seq_k (fun K2 hK2 => ?_)
 refine wp_region_lit ?_
 refine st_y ha3 rfl (y_fieldAddr ha3 (off := 0) rfl Try.underlying25 rfl (s := 0) (by kernel_rfl) rfl) ?_
 clear ha3 a3; intro a4 ha4
 refine st_y ha4 rfl (y_loadB1 ha4 m2 (i := 20) rfl rfl rfl Try.underlying3 rfl) ?_
 clear ha4 a4; intro a5 ha5
 refine wpList_nil ?_
 refine hK2 _ _ ?_; clear hK2; try clear K2
 refine wp_block ?_
 refine wp_seq_k (fun K3 hK3 => ?_)
 refine wp_region_lit ?_
 refine st_y ha5 rfl (y_eql ha5 rfl rfl) ?_
 clear ha5 a5; intro a6 ha6
 refine st_y ha6 rfl (y_assign ha6 rfl) ?_
 clear ha6 a6; intro a7 ha7
 refine wpList_nil ?_
 refine hK3 _ _ ?_; clear hK3; try clear K3
 refine bool_cases ha7 (t := 7) rfl (fun hb8 ha8 => ?_) (fun hb8 ha8 => ?_)
 rotate_left
 · exact absurd hb8 (by simp)
 clear ha7 hb8
 refine wp_cond_true (ha8.ev (x := .tmp 7) rfl) ?_
 refine wp_seq_k (fun K4 hK4 => ?_)
 refine wp_region_lit ?_
 refine st_y ha8 rfl (y_move ha8 rfl) ?_
 clear ha8 a7; intro a9 ha9
 refine st_y ha9 rfl (y_fieldAddr ha9 (off := 9) rfl Try.underlying25 rfl (s := 0) (by kernel_rfl) rfl) ?_
 clear ha9 a9; intro a10 ha10
 refine st_y ha10 rfl (y_loadB1 ha10 m2 (i := 20) rfl rfl rfl Try.underlying23 rfl) ?_
 clear ha10 a10; intro a11 ha11
 refine wpList_plain rfl (fun K hK => ?_)
 refine e_call ha11 Try.func59 rfl rfl rfl rfl (vput_ok _ _ _ _ _ _ _ _ _ place pins ws items _ _ _ _ _ _ _ _ _ hl hI hio (m2.into [(1, 1), (2, 2), (3, 3)] (by decide) rfl)) ?_
 rintro e w12 ⟨pw12, cw12, rfl, hm12⟩
 have mx12 := m2.back hm12 [(1, 1), (2, 2), (3, 3)] (by decide); clear hm12 m2
 have m12 : MemOk _ _ [(1, _), (2, _), (3, _), (20, _)] _ := mx12.only [1, 2, 3, 20]; clear mx12
 refine ⟨_, rfl, fun a13 ha13 => ?_⟩; clear ha11 a11
 refine hK _ _ ?_; clear hK K
 refine st_y ha13 rfl (y_assign ha13 rfl) ?_
 clear ha13 a13; intro a14 ha14
 refine wpList_nil ?_
 refine hK4 _ _ ?_; clear hK4; try clear K4
 refine wp_ret ?_
 try dsimp only [Exit.then, Exit.inBlock]
 refine (ret1 (fn := Try.f43) ha14 rfl rfl ?_)
 exact ⟨_, _, rfl, m12.only [1, 2, 3]⟩
theorem vDo_put (X : Cx) (vo bl sz pe to ne fl : Int) (place pins : List Int) (ws : List (Int × List (Int × List Int))) (items : List (Int × List Int)) (pp pn pw : Option Addr) (cp cn9 cw : Nat) (pi : Option Addr) (ci : Nat) (v1 v2 v3 v4 v5 v6 v7 : Int) (q1 : Option Addr) (n1 c1 : Nat) (w0 : World) (hn : place.length ≤ 1000000) (hp : pins.length ≤ 1000000) (hl : ws.length ≤ 900000) (hI : ItemsR bl sz items) (hio : ItsOk items) (hok : WrsOk ws) (m0 : MemOk X w0 [(1, .dat (.slice pp place.length cp) (.ns .i64 place)), (2, .dat (.slice pn pins.length cn9) (.ns .i64 pins)), (3, .dat (.slice pw (ws.map wrD).length cw) (.l 2 (ws.map wrD))), (4, .dat (.slice pi items.length ci) (.l 2 (items.map itD)))] w0) :
   Calls Try.prog 16 #[.agg #[.int .i64 vo, .int .i64 bl, .int .i64 sz, .int .i64 pe, .slice pp place.length cp, .int .i64 to, .int .i64 ne, .bool false, .int .i64 fl, .slice pn pins.length cn9, .slice pw (ws.map wrD).length cw], .agg #[.int .i64 2, .int .i64 v1, .int .i64 v2, .int .i64 v3, .int .i64 v4, .slice q1 n1 c1, .int .i64 v5, .int .i64 v6, .int .i64 v7, .slice pi items.length ci]] w0 fun e w' => ∃ p1 c1 p2 c2 p3 c3, e = .returned (.tuple #[.agg #[.int .i64 vo, .int .i64 bl, .int .i64 sz, .int .i64 pe, .slice p1 place.length c1, .int .i64 to, .int .i64 ne, .bool false, .int .i64 fl, .slice p2 pins.length c2, .slice p3 ((ws ++ [((ws.length : Int) + 1, items)]).map wrD).length c3], .agg #[.int .i64 0, .int .i64 ((ws.length : Int) + 1), .int .i64 fl, .int .i64 ne, .slice none 0 0]]) ∧ MemOk X w0 [(1, .dat (.slice pp place.length cp) (.ns .i64 place)), (2, .dat (.slice pn pins.length cn9) (.ns .i64 pins)), (3, .dat (.slice pw (ws.map wrD).length cw) (.l 2 (ws.map wrD))), (4, .dat (.slice pi items.length ci) (.l 2 (items.map itD))), (5, .dat (.slice p1 place.length c1) (.ns .i64 place)), (6, .dat (.slice p2 pins.length c2) (.ns .i64 pins)), (7, .seg (.slice p3 ((ws ++ [((ws.length : Int) + 1, items)]).map wrD).length c3) 55 2 ((ws ++ [((ws.length : Int) + 1, items)]).map wrD))] w' := by
 refine enter (fn := Try.f16) Try.func16 rfl Try.ntmps16 rfl (fun a0 ha0 => ?_)
 simp only [List.zipIdx_cons, List.zipIdx_nil, List.map_cons, List.map_nil, Nat.reduceAdd, Nat.zero_add] at ha0
 refine wp_seq_k (fun K0 hK0 => ?_)
 refine wp_region_lit ?_
 refine wpList_plain rfl (fun K hK => ?_)
 refine e_box ha0 m0 20 (cs := [_, _, _, _, _, _, _, _, _, _, _]) rfl rfl rfl ?_
 clear ha0 a0 m0; intro g1 a2 w2 ha2 m2 hB2 hg2
 clear hB2 hg2
 refine hK _ _ ?_; clear hK K
 refine wpList_plain rfl (fun K hK => ?_)
 refine e_box ha2 m2 21 (cs := [_, _, _, _, _, _, _, _, _, _]) rfl rfl rfl ?_
 clear ha2 a2 m2; intro g3 a4 w4 ha4 m4 hB4 hg4
 clear hB4 hg4
 refine hK _ _ ?_; clear hK K
 refine wpList_plain rfl (fun K hK => ?_)
 refine e_alloc ha4 m4 22 zc34vD rfl ?_
 clear ha4 a4 m4; intro g5 a6 w6 ha6 m6 hB6 hg6
 clear hB6 hg6
 refine hK _ _ ?_; clear hK K
 refine wpList_plain rfl (fun K hK => ?_)
 refine e_alloc ha6 m6 23 zc45vD rfl ?_
 clear ha6 a6 m6; intro g7 a8 w8 ha8 m8 hB8 hg8
 clear hB8 hg8
 refine hK _ _ ?_; clear hK K
 refine wpList_nil ?_
 refine hK0 _ _ ?_; clear hK0; try clear K0
 refine wp_seq_k (fun K1 hK1 => ?_)
 refine wp_region_lit ?_
 refine st_y ha8 rfl (y_loadBR ha8 m8 (i := 20) rfl rfl Try.underlying34 rfl sz34vD (by simp) (by dsimp only [List.drop, List.take] <;> rfl)) ?_
 clear ha8 a8; intro a9 ha9
 refine wpList_plain rfl (fun K hK => ?_)
 refine e_call ha9 Try.func42 rfl rfl rfl rfl (volcopy_fr _ _ _ _ _ _ _ _ _ place pins ws _ _ _ _ _ _ _ hn hp (by omega) hok (m8.into [(1, 1), (2, 2), (3, 3)] (by decide) rfl)) ?_
 rintro e w10 ⟨p110, c110, p210, c210, p310, c310, rfl, hm10⟩
 have mx10 := m8.back hm10 [(1, 1), (2, 2), (3, 3), (24, 4), (25, 5), (26, 6)] (by decide); clear hm10 m8
 have m10 : MemOk _ _ [(1, _), (2, _), (3, _), (24, _), (25, _), (26, _), (4, _), (20, _), (21, _), (22, _), (23, _)] _ := mx10.only [1, 2, 3, 24, 25, 26, 4, 20, 21, 22, 23]; clear mx10
 refine ⟨_, rfl, fun a11 ha11 => ?_⟩; clear ha9 a9
 refine hK _ _ ?_; clear hK K
 refine wpList_plain rfl (fun K hK => ?_)
 refine e_storeW ha11 m10 20 rfl rfl rfl rfl rfl sz34vD ?_
 clear m10; intro w12 m12 hB12
 clear hB12
 refine hK _ _ ?_; clear hK K
 refine wpList_nil ?_
 refine hK1 _ _ ?_; clear hK1; try clear K1
 refine wp_seq_k (fun K2 hK2 => ?_)
 refine wp_seq_k (fun K3 hK3 => ?_)
 refine wp_region_lit ?_
 refine st_y ha11 rfl (y_loadBR ha11 m12 (i := 21) rfl rfl Try.underlying25 rfl sz25vD (by simp) (by dsimp only [List.drop, List.take] <;> rfl)) ?_
 clear ha11 a11; intro a13 ha13
 refine wpList_plain rfl (fun K hK => ?_)
 refine e_call ha13 Try.func43 rfl rfl rfl rfl (vdo_put _ _ _ _ _ _ _ _ _ place pins ws items _ _ _ _ _ _ _ _ _ _ _ _ _ _ _ _ _ _ _ hl hI hio (m12.into [(1, 20), (2, 26), (3, 4)] (by decide) rfl)) ?_
 rintro e w14 ⟨pw14, cw14, rfl, hm14⟩
 have mx14 := m12.back hm14 [(20, 1), (26, 2), (4, 3)] (by decide); clear hm14 m12
 have m14 : MemOk _ _ [(20, _), (26, _), (4, _), (1, _), (2, _), (3, _), (21, _), (22, _), (23, _), (24, _), (25, _)] _ := mx14.only [20, 26, 4, 1, 2, 3, 21, 22, 23, 24, 25]; clear mx14
 refine ⟨_, rfl, fun a15 ha15 => ?_⟩; clear ha13 a13
 refine hK _ _ ?_; clear hK K
 refine st_y ha15 rfl (y_assign ha15 rfl) ?_
 clear ha15 a15; intro a16 ha16
 refine wpList_nil ?_
 refine hK3 _ _ ?_; clear hK3; try clear K3
 refine wp_seq_k (fun K4 hK4 => ?_)
 have ha17 : Has 24 [(2, _), (4, _), (5, _), (6, _)] a16 := ha16.only [2, 4, 5, 6]; clear ha16
 refine wp_region_lit ?_
 refine st_y ha17 rfl (y_move ha17 rfl) ?_
 clear ha17 a16; intro a18 ha18
 refine st_y ha18 rfl (y_neq ha18 rfl rfl) ?_
 clear ha18 a18; intro a19 ha19
 refine wpList_nil ?_
 refine hK4 _ _ ?_; clear hK4; try clear K4
 refine bool_cases ha19 (t := 12) rfl (fun hb20 ha20 => ?_) (fun hb20 ha20 => ?_)
 · exact absurd hb20 (by simp)
 clear ha19 hb20
 refine wp_cond_false (ha20.ev (x := .tmp 12) rfl) ?_
 refine wp_skip ?_
 refine hK2 _ _ ?_; clear hK2; try clear K2
 refine wp_seq_k (fun K5 hK5 => ?_)
 have m21 : MemOk _ _ [(1, _), (2, _), (3, _), (4, _), (20, _), (21, _), (22, _), (23, _), (24, _), (25, _), (26, _)] _ := m14.only [1, 2, 3, 4, 20, 21, 22, 23, 24, 25, 26]; clear m14
 refine region_m 10 (B := [(20, _)]) (m21.to ⟨il, trivial⟩) m21 (by kernel_rfl) (fun w22 mB22 m22 => ?_); clear m21 mB22
 refine dh 0 ha20 rfl rfl (m22.to ⟨il, trivial⟩) (fun W hW => y_loadBR ha20 hW (i := 20) rfl rfl Try.underlying34 rfl sz34vD (by simp) (by dsimp only [List.drop, List.take] <;> rfl)) ?_
 clear ha20 a19; intro a23 ha23
 refine dh 1 ha23 rfl rfl (m22.to ⟨il, trivial⟩) (fun W hW => y_loadBR ha23 hW (i := 20) rfl rfl Try.underlying34 rfl sz34vD (by simp) (by dsimp only [List.drop, List.take] <;> rfl)) ?_
 clear ha23 a23; intro a24 ha24
 refine dyn 3 ha24 rfl rfl (m22.to ⟨il, trivial⟩) (fun W => y_fieldAddr ha24 (off := 8) rfl Try.underlying34 rfl (s := 0) (by kernel_rfl) rfl) ?_
 clear ha24 a24; intro a25 ha25
 refine dh 4 ha25 rfl rfl (m22.to ⟨il, trivial⟩) (fun W hW => y_loadB1 ha25 hW (i := 20) rfl rfl rfl Try.underlying2 rfl) ?_
 clear ha25 a25; intro a26 ha26
 refine dyn 5 ha26 rfl rfl (m22.to ⟨il, trivial⟩) (fun W => y_fieldAddr ha26 (off := 6) rfl Try.underlying34 rfl (s := 0) (by kernel_rfl) rfl) ?_
 clear ha26 a26; intro a27 ha27
 refine dh 6 ha27 rfl rfl (m22.to ⟨il, trivial⟩) (fun W hW => y_loadB1 ha27 hW (i := 20) rfl rfl rfl Try.underlying3 rfl) ?_
 clear ha27 a27; intro a28 ha28
 refine stepE_only 2 rfl (by kernel_rfl) rfl (fun K hK => ?_)
 refine e_call ha28 Try.func20 rfl rfl rfl rfl (vlen_any _ _ _ _ _ _ _ _ _ _ _ _ _ _ _ _ _ _) ?_
 rintro e w29 ⟨rfl, hb29⟩
 have m30 := m22.later hb29
 clear m22
 clear hb29
 refine ⟨_, rfl, fun a31 ha31 => ?_⟩; clear ha28 a28
 refine hK _ _ (m30.to ⟨il, trivial⟩) ?_; clear hK K
 refine dyn 7 ha31 rfl rfl (m30.to ⟨il, trivial⟩) (fun W => y_build ha31 rfl zc45vD fl45vD rfl (by dsimp only [setL, List.set] <;> rfl)) ?_
 clear ha31 a31; intro a32 ha32
 refine stepE_only 8 rfl (by kernel_rfl) rfl (fun K hK => ?_)
 refine e_storeW ha32 m30 22 rfl rfl rfl rfl rfl sz34vD ?_
 clear m30; intro w33 m33 hB33
 clear hB33
 refine hK _ _ (m33.to ⟨il, trivial⟩) ?_; clear hK K
 refine stepE_only 9 rfl (by kernel_rfl) rfl (fun K hK => ?_)
 refine e_storeW ha32 m33 23 rfl rfl rfl rfl rfl sz45vD ?_
 clear m33; intro w34 m34 hB34
 clear hB34
 refine hK _ _ (m34.to ⟨il, trivial⟩) ?_; clear hK K
 refine wpAnyE_done (by kernel_rfl) ?_ _
 refine hK5 _ _ ?_; clear hK5; try clear K5
 refine wp_ret ?_
 try dsimp only [Exit.then, Exit.inBlock]
 refine (retCC (fn := Try.f16) ha32 m34 (i := 22) (i2 := 23) rfl rfl rfl rfl rfl Try.underlying34 rfl sz34vD Try.underlying45 rfl sz45vD ?_)
 have hlen : (((((ws ++ [((ws.length : Int) + 1, items)])).map wrD).length : Nat) : Int) = (ws.length : Int) + 1 := by simp
 exact ⟨_, _, _, _, _, _, by rw [hlen], m34.ren [(1, 1), (2, 2), (3, 3), (4, 4), (5, 24), (6, 25), (7, 26)] (by decide)⟩
end Go.Proofs.Ytocfbocdnklllaa.K
