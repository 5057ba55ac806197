/- volume: Put. -/
import Derived.Test.YtocfbocdnklllaaGreatVol4
namespace Go.Proofs.YtocfbocdnklllaaGreat.K
open Go.ChangeShapes Go.WideShapes Go.ChangeAt Go.RowKit
set_option linter.unusedVariables false
set_option linter.unusedSimpArgs false

theorem inf58lo : (Tryz.prog.info? 58).map (fun i => (i.zero, i.size, i.bytes)) = some (some (.agg #[.int .i64 0, .slice none 0 0]), 2, 32) := by kernel_rfl
theorem sz58lo : (Tryz.prog.info? 58).map (·.size) = some 2 := by kernel_rfl
theorem zc58lo : ((Tryz.prog.info? 58).bind (·.zero)).map (·.cells.toList) = some [.int .i64 0, .slice none 0 0] := by kernel_rfl
theorem sz24vf : (Tryz.prog.info? 24).map (·.size) = some 1 := by kernel_rfl
theorem sz25vf : (Tryz.prog.info? 25).map (·.size) = some 1 := by kernel_rfl
theorem sz26vf : (Tryz.prog.info? 26).map (·.size) = some 1 := by kernel_rfl
theorem sz28vf : (Tryz.prog.info? 28).map (·.size) = some 11 := by kernel_rfl
theorem zc28vf : ((Tryz.prog.info? 28).bind (·.zero)).map (·.cells.toList) = some [.int .i64 0, .int .i64 0, .int .i64 0, .int .i64 0, .slice none 0 0, .int .i64 0, .int .i64 0, .bool false, .int .i64 0, .slice none 0 0, .slice none 0 0] := by kernel_rfl
theorem fl58vw : flatS Tryz.prog 58 [.int .i64 0, .slice none 0 0] = true := by kernel_rfl
theorem inf58vw : (Tryz.prog.info? 58).map (fun i => (i.zero, i.size, i.bytes)) = some (some (.agg #[.int .i64 0, .slice none 0 0]), 2, 32) := by kernel_rfl
theorem sz26vw : (Tryz.prog.info? 26).map (·.size) = some 1 := by kernel_rfl
theorem sz28vw : (Tryz.prog.info? 28).map (·.size) = some 11 := by kernel_rfl
theorem zc58vw : ((Tryz.prog.info? 58).bind (·.zero)).map (·.cells.toList) = some [.int .i64 0, .slice none 0 0] := by kernel_rfl


theorem fl45vD : flatS Tryz.prog 45 [.int .i64 0, .int .i64 0, .int .i64 0, .int .i64 0, .slice none 0 0] = true := by kernel_rfl
theorem sz28vD : (Tryz.prog.info? 28).map (·.size) = some 11 := by kernel_rfl
theorem sz45vD : (Tryz.prog.info? 45).map (·.size) = some 5 := by kernel_rfl
theorem sz50vD : (Tryz.prog.info? 50).map (·.size) = some 10 := by kernel_rfl
theorem zc28vD : ((Tryz.prog.info? 28).bind (·.zero)).map (·.cells.toList) = some [.int .i64 0, .int .i64 0, .int .i64 0, .int .i64 0, .slice none 0 0, .int .i64 0, .int .i64 0, .bool false, .int .i64 0, .slice none 0 0, .slice none 0 0] := by kernel_rfl
theorem zc45vD : ((Tryz.prog.info? 45).bind (·.zero)).map (·.cells.toList) = some [.int .i64 0, .int .i64 0, .int .i64 0, .int .i64 0, .slice none 0 0] := by kernel_rfl

set_option maxRecDepth 100000
set_option maxHeartbeats 4000000
theorem listW_own (es : List (Int × List (Int × List Int))) (p0 : Option Addr) (c0 nn : Nat) (w0 : World) (h0 : Rd (fun _ => True) w0 (.slice p0 nn c0) (.l 2 (es.map wrD))) (hl : es.length ≤ 1000000) (hok : WrsOk es) :
   Calls Tryz.prog 52 #[.slice p0 nn c0, .func (.func 53) #[] #[]] w0 fun e w' => ∃ p c, e = .returned (.slice p (es.map wrD).length c) ∧ RowOk w0.heap.size (fun b => Out (fun _ => False) w0 b ∧ (Value.slice p (es.map wrD).length c).ownBlock ≠ some b) w' (.slice p (es.map wrD).length c) 58 2 (es.map wrD) ∧ Below w0.heap.size w0 w' := by
 obtain rfl : nn = es.length := by obtain ⟨pq, cq, hv, _⟩ := h0.l_shape; injection hv with _ e2 _; rw [List.length_map] at e2; exact e2
 refine enter (fn := Tryz.f52) Tryz.func52 rfl Tryz.ntmps52 rfl (fun Az Hz => ?_)
 simp only [List.zipIdx_cons, List.zipIdx_nil, List.map_cons, List.map_nil, Nat.reduceAdd, Nat.zero_add] at Hz
 have m0 := MemOk.start (fun _ => False) w0
 refine regS Hz (.assign rfl <| .nil) ?_
 clear Hz Az; intro Az Hz
 refine wp_seq_k (fun K0 hK0 => ?_)
 refine wp_region_lit ?_
 refine goCh Hz (.move rfl <| .len rfl Tryz.underlying26 <| .nil) ?_
 clear Hz Az; intro Az Hz
 refine wpList_plain rfl (fun K hK => ?_)
 refine e_call Hz Tryz.func71 rfl rfl rfl rfl (growW_any _ _ (by omega)) ?_
 rintro e w6 ⟨p6, c6, rfl, ho6, hb6⟩
 have m7 := m0.newR 3 hb6 (rowNil ho6)
 clear m0
 clear hb6 ho6
 refine ⟨_, rfl, ?_⟩; clear Hz Az; intro Az Hz
 refine hK _ _ ?_; clear hK K
 refine goCh Hz (.assign rfl .nil) ?_
 clear Hz Az; intro Az Hz
 refine wpList_nil ?_
 refine hK0 _ _ ?_; clear hK0; try clear K0
 refine wp_seq_k (fun K1 hK1 => ?_)
 refine regS Hz (.move rfl <| .len rfl Tryz.underlying26 <| .move rfl <| .nil) ?_
 clear Hz Az; intro Az Hz
 refine wp_block ?_
 refine wp_loop_ghost (fun g a w => ∃ (k : Nat) (p : Option Addr) (c : Nat), k ≤ es.length ∧ g = es.length - k ∧ Has 25 [(1, .func (.func 53) #[] #[]), (5, .slice p ((es.take k).map wrD).length c), (11, .slice p0 es.length c0), (12, .int .i64 es.length), (13, .int .i64 k)] a ∧ MemOk (cn w0) w0 [(3, .row (.slice p ((es.take k).map wrD).length c) 58 2 ((es.take k).map wrD))] w) (es.length) ?_ ?_
 · exact ⟨0, _, _, Nat.zero_le _, rfl, Hz.only [1, 5, 11, 12, 13], m7.only [3]⟩
 ·
  clear Hz m7
  rintro g Az w13 ⟨k, p, c, hkl, hg, Hz, m13⟩
  refine regS Hz (.lss rfl rfl <| .nil) ?_
  clear Hz Az; intro Az Hz
  refine wp_seq_k (fun K2 hK2 => ?_)
  refine bool_cases Hz (t := 14) rfl ?_ ?_
  ·
   clear Hz; intro hb15 Hz
   try simp only [Q1x, Q2x, Q3x, Q4x, Q5x, Q6x, Q7x, Q8x, Q9x, Q0x, Qax, Qbx] at hb15
   have hk : k < es.length := by omega
   obtain ⟨⟨xs, xl⟩, hes⟩ : ∃ e, es[k]? = some e := ⟨_, List.getElem?_eq_getElem hk⟩
   have hed := hok _ (List.mem_of_getElem? hes)
   dsimp only at hed
   refine wp_cond_true (Hz.ev (x := .tmp 14) rfl) ?_
   refine wp_skip ?_
   refine hK2 _ _ ?_; clear hK2; try clear K2
   refine wp_seq_k (fun K3 hK3 => ?_)
   refine wp_block ?_
   refine wp_seq_k (fun K4 hK4 => ?_)
   refine wp_region_lit ?_
   obtain ⟨gx17, ox17, vx17, hp17, hl17, hR17, hrg17⟩ := h0.extA (k) (r := [.v (.int .i64 xs), .l 2 (xl.map itD)]) (wrD_get hes)
   cases hp17; clear hl17
   rcases hR17 with _ | ⟨hd17_0, _ | ⟨hd17_1, _ | _⟩⟩
   obtain rfl := hd17_0.v_out
   clear hd17_0
   obtain ⟨p18, c18, hv18, hw18⟩ := hd17_1.l_shape; subst hv18
   refine goCh Hz (.c rfl (fun _ h => y_idx h rfl rfl Tryz.underlying26 sz58lo (k) rfl hk) <| .loadAt (hrg17 m13 rfl) rfl Tryz.underlying58 rfl sz58lo <| .nil) ?_
   clear Hz Az; intro Az Hz
   refine wpList_plain rfl (fun K hK => ?_)
   refine e_alloc Hz m13 101 zc58lo rfl ?_
   clear Hz Az m13; intro g21 Az w22 Hz m22 hB22 hg22
   clear hB22 hg22
   refine hK _ _ ?_; clear hK K
   refine wpList_plain rfl (fun K hK => ?_)
   refine e_storeW Hz m22 101 rfl rfl rfl rfl rfl sz58lo ?_
   clear m22; intro w23 m23 hB23
   clear hB23
   refine hK _ _ ?_; clear hK K
   refine wpList_nil ?_
   refine hK4 _ _ ?_; clear hK4; try clear K4
   refine wp_region_lit ?_
   refine goCh Hz (.move rfl <| .move rfl <| .loadBR m23 (i := 101) rfl rfl Tryz.underlying58 rfl sz58lo (by simp) (by dsimp only [List.drop, List.take] <;> rfl) <| .nil) ?_
   clear Hz Az; intro Az Hz
   refine wpList_plain rfl (fun K hK => ?_)
   refine e_callV Hz rfl Tryz.func53 rfl rfl rfl rfl (write_any xs xl _ _ _ _ ((hd17_1.now' m23 rfl).any) hed.1 hed.2) ?_
   rintro e w27 ⟨p27, c27, rfl, hd27, hb27⟩
   have m28 := m23.callF 102 rfl hb27 hd27
   clear m23
   clear hb27 hd27
   refine ⟨_, rfl, ?_⟩; clear Hz Az; intro Az Hz
   refine hK _ _ ?_; clear hK K
   refine wpList_plain rfl (fun K hK => ?_)
   refine e_litR Hz m28 103 (mm := 2) rfl (.cons rfl rfl (.cons (.v _) (.cons (m28.rd (i := 102) rfl) .nil)) <| .nil) Tryz.underlying26 inf58lo rfl rfl rfl rfl rfl ?_
   clear Hz Az m28; intro g30 Az w31 Hz m31
   refine hK _ _ ?_; clear hK K
   have m33 := m31.freezeR 103 rfl; clear m31
   refine wpList_plain rfl (fun K hK => ?_)
   refine e_appR Hz m33 3 rfl rfl rfl (m33.rd (i := 103) rfl) Tryz.underlying26 inf58lo rfl rfl (by decide) (by simp; omega) rfl ?_
   clear Hz Az m33; intro p32 c32 Az w34 Hz m34
   refine hK _ _ ?_; clear hK K
   refine goCh Hz (.assign rfl .nil) ?_
   clear Hz Az; intro Az Hz
   refine wpList_nil ?_
   refine hK3 _ _ ?_; clear hK3; try clear K3
   replace Hz : Has 25 [(1, _), (5, _), (11, _), (12, _), (13, _)] Az := Hz.only [1, 5, 11, 12, 13]
   refine wp_region_lit ?_
   refine goCh Hz (.add rfl rfl (r := ((k + 1 : Nat) : Int)) (by rw [IntWalk.i64_in _ (by omega)]; omega) <| .move rfl <| .nil) ?_
   clear Hz Az; intro Az Hz
   refine wpList_nil ?_
   show ∃ n', n' < _ ∧ _
   have hE : (es.take k).map wrD ++ [[D.v (.int .i64 xs), .l 2 (xl.map itD)]] = (es.take (k + 1)).map wrD := by rw [take_snoc hes, List.map_append]; rfl
   rw [hE] at m34 Hz
   exact ⟨es.length - (k + 1), by omega, k + 1, _, _, by omega, rfl, Hz.only [1, 5, 11, 12, 13], m34.only [3]⟩
  ·
   clear Hz; intro hb15 Hz
   try simp only [Q1x, Q2x, Q3x, Q4x, Q5x, Q6x, Q7x, Q8x, Q9x, Q0x, Qax, Qbx] at hb15
   obtain rfl : k = es.length := by omega
   refine wp_cond_false (Hz.ev (x := .tmp 14) rfl) ?_
   refine wp_exit ?_
   refine hK1 _ _ ?_; clear hK1; try clear K1
   refine regS Hz (.move rfl <| .assign rfl <| .nil) ?_
   clear Hz Az; intro Az Hz
   refine wp_ret ?_
   try dsimp only [Exit.then, Exit.inBlock]
   refine (ret1 (fn := Tryz.f52) Hz rfl rfl ?_)
   rw [List.take_length] at *
   exact ⟨_, _, rfl, m13.outR (i := 3) rfl, m13.below⟩
theorem volcopy_fr (X : Cx) (vo bl sz pe to ne fl : Int) (hi : Bool) (place pins : List Int) (ws : List (Int × List (Int × List Int))) (pp pn pw : Option Addr) (cp cn9 cw : Nat) (w0 : World) (hn : place.length ≤ 1000000) (hp : pins.length ≤ 1000000) (hl : ws.length ≤ 1000000) (hok : WrsOk ws) (m0 : MemOk X w0 [(1, .dat (.slice pp place.length cp) (.ns .i64 place)), (2, .dat (.slice pn pins.length cn9) (.ns .i64 pins)), (3, .dat (.slice pw (ws.map wrD).length cw) (.l 2 (ws.map wrD)))] w0) :
   Calls Tryz.prog 32 #[.agg #[.int .i64 vo, .int .i64 bl, .int .i64 sz, .int .i64 pe, .slice pp place.length cp, .int .i64 to, .int .i64 ne, .bool hi, .int .i64 fl, .slice pn pins.length cn9, .slice pw (ws.map wrD).length cw]] w0 fun e w' => ∃ p1 c1 p2 c2 p3 c3, e = .returned (.agg #[.int .i64 vo, .int .i64 bl, .int .i64 sz, .int .i64 pe, .slice p1 place.length c1, .int .i64 to, .int .i64 ne, .bool hi, .int .i64 fl, .slice p2 pins.length c2, .slice p3 (ws.map wrD).length c3]) ∧ MemOk X w0 [(1, .dat (.slice pp place.length cp) (.ns .i64 place)), (2, .dat (.slice pn pins.length cn9) (.ns .i64 pins)), (3, .dat (.slice pw (ws.map wrD).length cw) (.l 2 (ws.map wrD))), (4, .dat (.slice p1 place.length c1) (.ns .i64 place)), (5, .dat (.slice p2 pins.length c2) (.ns .i64 pins)), (6, .seg (.slice p3 (ws.map wrD).length c3) 58 2 (ws.map wrD))] w' := by
 refine enter (fn := Tryz.f32) Tryz.func32 rfl Tryz.ntmps32 rfl (fun Az Hz => ?_)
 simp only [List.zipIdx_cons, List.zipIdx_nil, List.map_cons, List.map_nil, Nat.reduceAdd, Nat.zero_add] at Hz
 refine wp_seq_k (fun K0 hK0 => ?_)
 refine wp_region_lit ?_
 refine wpList_plain rfl (fun K hK => ?_)
 refine e_box Hz m0 20 (cs := [_, _, _, _, _, _, _, _, _, _, _]) rfl rfl rfl ?_
 clear Hz Az m0; intro g1 Az w2 Hz m2 hB2 hg2
 clear hB2 hg2
 refine hK _ _ ?_; clear hK K
 refine wpList_plain rfl (fun K hK => ?_)
 refine e_alloc Hz m2 21 zc28vf rfl ?_
 clear Hz Az m2; intro g3 Az w4 Hz m4 hB4 hg4
 clear hB4 hg4
 refine hK _ _ ?_; clear hK K
 refine wpList_nil ?_
 refine hK0 _ _ ?_; clear hK0; try clear K0
 refine wp_seq_k (fun K1 hK1 => ?_)
 have m5 : MemOk _ _ [(1, _), (2, _), (3, _), (20, _), (21, _)] _ := m4.only [1, 2, 3, 20, 21]; clear m4
 refine region_p 10 (B := [(1, _), (2, _), (3, _), (20, _), (21, _)]) (m5.to ⟨il, il, il, il, il, trivial⟩) m5 (by kernel_rfl) (fun w6 hP6 m6 => ?_); clear m5
 refine goR hP6 [0, 1, 3, 4, 6, 7] [1, 4, 7] 6 0 219 Hz (m6.to ⟨il, il, il, il, il, trivial⟩) (.fieldAddr (off := 4) rfl Tryz.underlying28 rfl (s := 0) (by kernel_rfl) rfl <| .loadB1 hh (i := 20) rfl rfl rfl Tryz.underlying24 rfl <| .fieldAddr (off := 9) rfl Tryz.underlying28 rfl (s := 0) (by kernel_rfl) rfl <| .loadB1 hh (i := 20) rfl rfl rfl Tryz.underlying25 rfl <| .fieldAddr (off := 10) rfl Tryz.underlying28 rfl (s := 0) (by kernel_rfl) rfl <| .loadB1 hh (i := 20) rfl rfl rfl Tryz.underlying26 rfl <| .nil) ?_
 clear Hz Az; intro Az Hz
 refine stepE_only 2 rfl (by kernel_rfl) rfl (fun K hK => ?_)
 refine e_call Hz Tryz.func37 rfl rfl rfl rfl (plainI_any place _ _ _ ((m6.rd (i := 1) rfl).any) hn) ?_
 rintro e w13 ⟨p13, c13, rfl, hd13, hb13⟩
 have m14 := m6.callF 22 rfl hb13 hd13
 clear m6
 clear hb13 hd13
 refine ⟨_, rfl, ?_⟩; clear Hz Az; intro Az Hz
 refine hK _ _ (m14.to ⟨il, il, il, il, il, trivial⟩) ?_; clear hK K
 refine goA hP6 [9] 1 223 735 Hz (m14.to ⟨il, il, il, il, il, trivial⟩) (.fieldAddr (off := 4) rfl Tryz.underlying28 rfl (s := 0) (by kernel_rfl) rfl <| .nil) ?_
 clear Hz Az; intro Az Hz
 refine stepE_only 5 rfl (by kernel_rfl) rfl (fun K hK => ?_)
 refine e_call Hz Tryz.func51 rfl rfl rfl rfl (plain64_any pins _ _ _ ((m14.rd (i := 2) rfl).any) hp) ?_
 rintro e w17 ⟨p17, c17, rfl, hd17, hb17⟩
 have m18 := m14.callF 23 rfl hb17 hd17
 clear m14
 clear hb17 hd17
 refine ⟨_, rfl, ?_⟩; clear Hz Az; intro Az Hz
 refine hK _ _ (m18.to ⟨il, il, il, il, il, trivial⟩) ?_; clear hK K
 refine stepE_only 8 rfl (by kernel_rfl) rfl (fun K hK => ?_)
 refine e_call Hz Tryz.func52 rfl rfl rfl rfl (listW_own ws _ _ _ _ ((m18.rd (i := 3) rfl).any) hl hok) ?_
 rintro e w20 ⟨p20, c20, rfl, ho20, hb20⟩
 have m21 := m18.callR 24 hb20 (ho20.cast (fun b h => ⟨h.1.elim False.elim .inr, h.2⟩))
 clear m18
 have m22 := m21.rowS 24 rfl
 clear m21
 clear hb20 ho20
 refine ⟨_, rfl, ?_⟩; clear Hz Az; intro Az Hz
 refine hK _ _ (m22.to ⟨il, il, il, il, il, trivial⟩) ?_; clear hK K
 refine stepE_end 10 rfl (by kernel_rfl) rfl (by rfl) (fun K hK => ?_)
 refine e_store1 Hz m22 20 rfl rfl rfl rfl rfl sz24vf (by dsimp only [List.set] <;> rfl) ?_
 clear m22; intro w24 m24 hB24
 clear hB24
 refine hK _ _ ?_; clear hK K
 refine goB hP6 [11] 1 2047 4095 Hz (.fieldAddr (off := 9) rfl Tryz.underlying28 rfl (s := 0) (by kernel_rfl) rfl <| .nil) ?_
 clear Hz Az; intro Az Hz
 refine stepE_end 12 rfl (by kernel_rfl) rfl (by rfl) (fun K hK => ?_)
 refine e_store1 Hz m24 20 rfl rfl rfl rfl rfl sz25vf (by dsimp only [List.set] <;> rfl) ?_
 clear m24; intro w26 m26 hB26
 clear hB26
 refine hK _ _ ?_; clear hK K
 refine goB hP6 [13] 1 8191 16383 Hz (.fieldAddr (off := 10) rfl Tryz.underlying28 rfl (s := 0) (by kernel_rfl) rfl <| .nil) ?_
 clear Hz Az; intro Az Hz
 refine stepE_end 14 rfl (by kernel_rfl) rfl (by rfl) (fun K hK => ?_)
 refine e_store1 Hz m26 20 rfl rfl rfl rfl rfl sz26vf (by dsimp only [List.set] <;> rfl) ?_
 clear m26; intro w28 m28 hB28
 clear hB28
 refine hK _ _ ?_; clear hK K
 refine wpAnyE_done (by kernel_rfl) ?_ _
 refine hK1 _ _ ?_; clear hK1; try clear K1
 replace Hz : Has 16 [(1, _), (2, _)] Az := Hz.only [1, 2]
 refine wp_seq_k (fun K2 hK2 => ?_)
 refine wp_region_lit ?_
 refine goCh Hz (.loadBR m28 (i := 20) rfl rfl Tryz.underlying28 rfl sz28vf (by simp) (by dsimp only [List.drop, List.take] <;> rfl) .nil) ?_
 clear Hz Az; intro Az Hz
 refine wpList_plain rfl (fun K hK => ?_)
 refine e_storeW Hz m28 21 rfl rfl rfl rfl rfl sz28vf ?_
 clear m28; intro w32 m32 hB32
 clear hB32
 refine hK _ _ ?_; clear hK K
 refine wpList_nil ?_
 refine hK2 _ _ ?_; clear hK2; try clear K2
 refine wp_ret ?_
 try dsimp only [Exit.then, Exit.inBlock]
 refine (retC (fn := Tryz.f32) Hz m32 (i := 21) rfl rfl rfl Tryz.underlying28 rfl sz28vf ?_)
 exact ⟨_, _, _, _, _, _, rfl, m32.ren [(1, 1), (2, 2), (3, 3), (4, 22), (5, 23), (6, 24)] (by decide)⟩
theorem vwrite_ok (X : Cx) (B : Nat) (vo bl sz pe to ne fl : Int) (hi : Bool) (place pins : List Int) (ws : List (Int × List (Int × List Int))) (items : List (Int × List Int)) (pp pn pw : Option Addr) (cp cn9 cw : Nat) (pi : Option Addr) (ci : Nat) (w0 : World) (hl : ws.length ≤ 900000) (hI : ItemsR bl sz items) (hio : ItsOk items) (m0 : MemOk X w0 [(1, .box B 28 [.int .i64 vo, .int .i64 bl, .int .i64 sz, .int .i64 pe, .slice pp place.length cp, .int .i64 to, .int .i64 ne, .bool hi, .int .i64 fl, .slice pn pins.length cn9, .slice pw (ws.map wrD).length cw]), (2, .seg (.slice pw (ws.map wrD).length cw) 58 2 (ws.map wrD)), (3, .dat (.slice pi items.length ci) (.l 2 (items.map itD)))] w0) :
   Calls Tryz.prog 73 #[.pointer (some ⟨B, 0, none⟩), .slice pi items.length ci] w0 fun e w' => ∃ pw' cw', e = .returned (.int .i64 0) ∧ MemOk X w0 [(1, .box B 28 [.int .i64 vo, .int .i64 bl, .int .i64 sz, .int .i64 pe, .slice pp place.length cp, .int .i64 to, .int .i64 ne, .bool hi, .int .i64 fl, .slice pn pins.length cn9, .slice pw' ((ws ++ [((ws.length : Int) + 1, items)]).map wrD).length cw']), (2, .seg (.slice pw' ((ws ++ [((ws.length : Int) + 1, items)]).map wrD).length cw') 58 2 ((ws ++ [((ws.length : Int) + 1, items)]).map wrD)), (3, .dat (.slice pi items.length ci) (.l 2 (items.map itD)))] w' := by
 refine enter (fn := Tryz.f73) Tryz.func73 rfl Tryz.ntmps73 rfl (fun Az Hz => ?_)
 simp only [List.zipIdx_cons, List.zipIdx_nil, List.map_cons, List.map_nil, Nat.reduceAdd, Nat.zero_add] at Hz
 refine regS Hz (.assign rfl <| .nil) ?_
 clear Hz Az; intro Az Hz
 refine wp_seq_k (fun K0 hK0 => ?_)
 refine wp_seq_k (fun K1 hK1 => ?_)
 have m2 : MemOk _ _ [(1, _), (2, _), (3, _)] _ := m0.only [1, 2, 3]; clear m0
 refine region_p 11 (B := [(1, _), (2, _), (3, _)]) (m2.to ⟨il, il, il, trivial⟩) m2 (by kernel_rfl) (fun w3 hP3 m3 => ?_); clear m2
 refine goR hP3 [0, 1, 2, 3, 4, 5, 6, 7, 8] [3, 7] 9 0 511 Hz (m3.to ⟨il, il, il, trivial⟩) (.move rfl <| .nilCheck rfl <| .fieldAddr (off := 1) rfl Tryz.underlying28 rfl (s := 0) (by kernel_rfl) rfl <| .loadB1 hh (i := 1) rfl rfl rfl Tryz.underlying3 rfl <| .move rfl <| .nilCheck rfl <| .fieldAddr (off := 2) rfl Tryz.underlying28 rfl (s := 0) (by kernel_rfl) rfl <| .loadB1 hh (i := 1) rfl rfl rfl Tryz.underlying3 rfl <| .move rfl <| .nil) ?_
 clear Hz Az; intro Az Hz
 refine stepE_only 9 rfl (by kernel_rfl) rfl (fun K hK => ?_)
 refine e_call Hz Tryz.func39 rfl rfl rfl rfl (vitems_nn _ _ items _ _ _ _ ((m3.rd (i := 3) rfl).any) (by have := hI.2.1; omega)) ?_
 rintro e w13 ⟨ib, rfl, hib, hb13⟩
 have m14 := m3.later hb13
 clear m3
 clear hb13
 refine ⟨_, rfl, ?_⟩; clear Hz Az; intro Az Hz
 refine hK _ _ (m14.to ⟨il, il, il, trivial⟩) ?_; clear hK K
 refine goA hP3 [10] 1 1023 2047 Hz (m14.to ⟨il, il, il, trivial⟩) (.not rfl <| .nil) ?_
 clear Hz Az; intro Az Hz
 refine wpAnyE_done (by kernel_rfl) ?_ _
 refine hK1 _ _ ?_; clear hK1; try clear K1
 refine bool_cases Hz (t := 15) rfl ?_ ?_
 · intro hb _; exact absurd hb (by simp [hib.2 hI])
 clear Hz; intro _ Hz
 refine wp_cond_false (Hz.ev (x := .tmp 15) rfl) ?_
 refine wp_skip ?_
 refine hK0 _ _ ?_; clear hK0; try clear K0
 refine wp_seq_k (fun K2 hK2 => ?_)
 replace Hz : Has 33 [(0, _), (1, _), (4, _)] Az := Hz.only [0, 1, 4]
 have m19 : MemOk _ _ [(1, _), (2, _), (3, _)] _ := m14.only [1, 2, 3]; clear m14
 refine region_p 14 (B := [(1, _), (2, _), (3, _)]) (m19.to ⟨il, il, il, trivial⟩) m19 (by kernel_rfl) (fun w20 hP20 m20 => ?_); clear m19
 refine goR hP20 [0, 1, 2, 3, 4, 5, 6, 7, 10] [4, 7] 9 0 1279 Hz (m20.to ⟨il, il, il, trivial⟩) (.move rfl <| .move rfl <| .nilCheck rfl <| .fieldAddr (off := 10) rfl Tryz.underlying28 rfl (s := 0) (by kernel_rfl) rfl <| .loadB1 hh (i := 1) rfl rfl rfl Tryz.underlying26 rfl <| .move rfl <| .nilCheck rfl <| .loadBR hh (i := 1) rfl rfl Tryz.underlying28 rfl sz28vw (by simp) (by dsimp only [List.drop, List.take] <;> rfl) <| .move rfl <| .nil) ?_
 clear Hz Az; intro Az Hz
 refine stepE_only 8 rfl (by kernel_rfl) rfl (fun K hK => ?_)
 refine e_call Hz Tryz.func18 rfl rfl rfl rfl (vlen_any _ _ _ _ _ _ _ _ _ _ _ _ _ _ _ _ _ _) ?_
 rintro e w30 ⟨rfl, hb30⟩
 have m31 := m20.later hb30
 clear m20
 clear hb30
 refine ⟨_, rfl, ?_⟩; clear Hz Az; intro Az Hz
 refine hK _ _ (m31.to ⟨il, il, il, trivial⟩) ?_; clear hK K
 refine goA hP20 [9] 1 1535 2047 Hz (m31.to ⟨il, il, il, trivial⟩) (.add rfl rfl (r := (ws.length : Int) + 1) (by rw [List.length_map]; exact IntWalk.i64_in _ (by omega)) <| .nil) ?_
 clear Hz Az; intro Az Hz
 refine stepE_only 11 rfl (by kernel_rfl) rfl (fun K hK => ?_)
 refine e_call Hz Tryz.func72 rfl rfl rfl rfl (items_any items _ _ _ _ ((m31.rd (i := 3) rfl).any) (by have := hI.2.1; omega) hio) ?_
 rintro e w34 ⟨p34, c34, rfl, hd34, hb34⟩
 have m35 := m31.callF 20 rfl hb34 hd34
 clear m31
 clear hb34 hd34
 refine ⟨_, rfl, ?_⟩; clear Hz Az; intro Az Hz
 refine hK _ _ (m35.to ⟨il, il, il, trivial⟩) ?_; clear hK K
 refine goA hP20 [12] 1 4095 8191 Hz (m35.to ⟨il, il, il, trivial⟩) (.build rfl zc58vw fl58vw rfl (by dsimp only [setL, List.set] <;> rfl) <| .nil) ?_
 clear Hz Az; intro Az Hz
 refine stepE_only 13 rfl (by kernel_rfl) rfl (fun K hK => ?_)
 refine e_litR Hz m35 21 (mm := 2) rfl (.cons rfl rfl (.cons (.v _) (.cons (m35.rd (i := 20) rfl) .nil)) <| .nil) Tryz.underlying26 inf58vw rfl rfl rfl rfl rfl ?_
 clear Hz Az m35; intro g38 Az w39 Hz m39
 refine hK _ _ (m39.to ⟨il, il, il, trivial⟩) ?_; clear hK K
 have m41 := m39.freezeR 21 rfl; clear m39
 refine stepE_end 14 rfl (by kernel_rfl) rfl (by rfl) (fun K hK => ?_)
 refine e_appSA Hz m41 2 rfl rfl rfl (m41.rd (i := 21) rfl).cells Tryz.underlying26 inf58vw rfl rfl (by decide) (by simp; omega) rfl ?_
 clear Hz Az m41; intro p40 c40 Az w42 Hz m42
 refine hK _ _ ?_; clear hK K
 refine goB hP20 [15, 16] 2 32767 131071 Hz (.nilCheck rfl <| .fieldAddr (off := 10) rfl Tryz.underlying28 rfl (s := 0) (by kernel_rfl) rfl <| .nil) ?_
 clear Hz Az; intro Az Hz
 refine stepE_end 17 rfl (by kernel_rfl) rfl (by rfl) (fun K hK => ?_)
 refine e_store1 Hz m42 1 rfl rfl rfl rfl rfl sz26vw (by dsimp only [List.set] <;> rfl) ?_
 clear m42; intro w45 m45 hB45
 clear hB45
 refine hK _ _ ?_; clear hK K
 refine wpAnyE_done (by kernel_rfl) ?_ _
 refine hK2 _ _ ?_; clear hK2; try clear K2
 replace Hz : Has 33 [(4, _)] Az := Hz.only [4]
 refine regS Hz (.assign rfl <| .nil) ?_
 clear Hz Az; intro Az Hz
 refine wp_ret ?_
 try dsimp only [Exit.then, Exit.inBlock]
 refine (ret1 (fn := Tryz.f73) Hz rfl rfl ?_)
 have hE : ws.map wrD ++ [[D.v (.int .i64 ((ws.length : Int) + 1)), .l 2 (items.map itD)]] = (ws ++ [((ws.length : Int) + 1, items)]).map wrD := by rw [List.map_append]; rfl
 rw [hE] at m45
 exact ⟨_, _, rfl, m45.only [1, 2, 3]⟩
theorem vput_ok (X : Cx) (B : Nat) (vo bl sz pe to ne fl : Int) (place pins : List Int) (ws : List (Int × List (Int × List Int))) (items : List (Int × List Int)) (pp pn pw : Option Addr) (cp cn9 cw : Nat) (pi : Option Addr) (ci : Nat) (w0 : World) (hl : ws.length ≤ 900000) (hI : ItemsR bl sz items) (hio : ItsOk items) (m0 : MemOk X w0 [(1, .box B 28 [.int .i64 vo, .int .i64 bl, .int .i64 sz, .int .i64 pe, .slice pp place.length cp, .int .i64 to, .int .i64 ne, .bool false, .int .i64 fl, .slice pn pins.length cn9, .slice pw (ws.map wrD).length cw]), (2, .seg (.slice pw (ws.map wrD).length cw) 58 2 (ws.map wrD)), (3, .dat (.slice pi items.length ci) (.l 2 (items.map itD)))] w0) :
   Calls Tryz.prog 54 #[.pointer (some ⟨B, 0, none⟩), .slice pi items.length ci] w0 fun e w' => ∃ pw' cw', e = .returned (.int .i64 0) ∧ MemOk X w0 [(1, .box B 28 [.int .i64 vo, .int .i64 bl, .int .i64 sz, .int .i64 pe, .slice pp place.length cp, .int .i64 to, .int .i64 ne, .bool false, .int .i64 fl, .slice pn pins.length cn9, .slice pw' ((ws ++ [((ws.length : Int) + 1, items)]).map wrD).length cw']), (2, .seg (.slice pw' ((ws ++ [((ws.length : Int) + 1, items)]).map wrD).length cw') 58 2 ((ws ++ [((ws.length : Int) + 1, items)]).map wrD)), (3, .dat (.slice pi items.length ci) (.l 2 (items.map itD)))] w' := by
 refine enter (fn := Tryz.f54) Tryz.func54 rfl Tryz.ntmps54 rfl (fun Az Hz => ?_)
 simp only [List.zipIdx_cons, List.zipIdx_nil, List.map_cons, List.map_nil, Nat.reduceAdd, Nat.zero_add] at Hz
 refine regS Hz (.assign rfl <| .nil) ?_
 clear Hz Az; intro Az Hz
 refine wp_seq_k (fun K0 hK0 => ?_)
 refine regS Hz (.move rfl <| .nilCheck rfl <| .fieldAddr (off := 7) rfl Tryz.underlying28 rfl (s := 0) (by kernel_rfl) rfl <| .loadB1 m0 (i := 1) rfl rfl rfl Tryz.underlying4 rfl <| .nil) ?_
 clear Hz Az; intro Az Hz
 refine wp_cond_false (Hz.ev (x := .tmp 8) rfl) ?_
 refine wp_skip ?_
 refine hK0 _ _ ?_; clear hK0; try clear K0
 refine wp_seq_k (fun K1 hK1 => ?_)
 refine wp_region_lit ?_
 refine goCh Hz (.move rfl <| .move rfl <| .nil) ?_
 clear Hz Az; intro Az Hz
 refine wpList_plain rfl (fun K hK => ?_)
 refine e_call Hz Tryz.func73 rfl rfl rfl rfl (vwrite_ok _ _ _ _ _ _ _ _ _ _ place pins ws items _ _ _ _ _ _ _ _ _ hl hI hio (m0.into [(1, 1), (2, 2), (3, 3)] (by decide) rfl)) ?_
 rintro e w10 ⟨pw10, cw10, rfl, hm10⟩
 have mx10 := m0.back hm10 [(1, 1), (2, 2), (3, 3)] (by decide); clear hm10 m0
 have m10 : MemOk _ _ [(1, _), (2, _), (3, _)] _ := mx10.only [1, 2, 3]; clear mx10
 refine ⟨_, rfl, ?_⟩; clear Hz Az; intro Az Hz
 refine hK _ _ ?_; clear hK K
 refine goCh Hz (.assign rfl .nil) ?_
 clear Hz Az; intro Az Hz
 refine wpList_nil ?_
 refine hK1 _ _ ?_; clear hK1; try clear K1
 refine wp_ret ?_
 try dsimp only [Exit.then, Exit.inBlock]
 refine (ret1 (fn := Tryz.f54) Hz rfl rfl ?_)
 exact ⟨_, _, rfl, m10.only [1, 2, 3]⟩
theorem vdo_put (X : Cx) (B : Nat) (vo bl sz pe to ne fl : Int) (place pins : List Int) (ws : List (Int × List (Int × List Int))) (items : List (Int × List Int)) (pp pn pw : Option Addr) (cp cn9 cw : Nat) (pi : Option Addr) (ci : Nat) (v1 v2 v3 v4 v5 v6 v7 : Int) (q1 : Option Addr) (n1 c1 : Nat) (w0 : World) (hl : ws.length ≤ 900000) (hI : ItemsR bl sz items) (hio : ItsOk items) (m0 : MemOk X w0 [(1, .box B 28 [.int .i64 vo, .int .i64 bl, .int .i64 sz, .int .i64 pe, .slice pp place.length cp, .int .i64 to, .int .i64 ne, .bool false, .int .i64 fl, .slice pn pins.length cn9, .slice pw (ws.map wrD).length cw]), (2, .seg (.slice pw (ws.map wrD).length cw) 58 2 (ws.map wrD)), (3, .dat (.slice pi items.length ci) (.l 2 (items.map itD)))] w0) :
   Calls Tryz.prog 33 #[.pointer (some ⟨B, 0, none⟩), .agg #[.int .i64 2, .int .i64 v1, .int .i64 v2, .int .i64 v3, .int .i64 v4, .slice q1 n1 c1, .int .i64 v5, .int .i64 v6, .int .i64 v7, .slice pi items.length ci]] w0 fun e w' => ∃ pw' cw', e = .returned (.int .i64 0) ∧ MemOk X w0 [(1, .box B 28 [.int .i64 vo, .int .i64 bl, .int .i64 sz, .int .i64 pe, .slice pp place.length cp, .int .i64 to, .int .i64 ne, .bool false, .int .i64 fl, .slice pn pins.length cn9, .slice pw' ((ws ++ [((ws.length : Int) + 1, items)]).map wrD).length cw']), (2, .seg (.slice pw' ((ws ++ [((ws.length : Int) + 1, items)]).map wrD).length cw') 58 2 ((ws ++ [((ws.length : Int) + 1, items)]).map wrD)), (3, .dat (.slice pi items.length ci) (.l 2 (items.map itD)))] w' := by
 refine enter (fn := Tryz.f33) Tryz.func33 rfl Tryz.ntmps33 rfl (fun Az Hz => ?_)
 simp only [List.zipIdx_cons, List.zipIdx_nil, List.map_cons, List.map_nil, Nat.reduceAdd, Nat.zero_add] at Hz
 refine wp_seq_k (fun K0 hK0 => ?_)
 refine wp_region_lit ?_
 refine wpList_plain rfl (fun K hK => ?_)
 refine e_box Hz m0 20 (cs := [_, _, _, _, _, _, _, _, _, _]) rfl rfl rfl ?_
 clear Hz Az m0; intro g1 Az w2 Hz m2 hB2 hg2
 clear hB2 hg2
 refine hK _ _ ?_; clear hK K
 refine goCh Hz (.assign rfl .nil) ?_
 clear Hz Az; intro Az Hz
 refine wpList_nil ?_
 refine hK0 _ _ ?_; clear hK0; try clear K0
 refine wp_seq_k (fun K1 hK1 => ?_)
 refine regS Hz (.fieldAddr (off := 0) rfl Tryz.underlying50 rfl (s := 0) (by kernel_rfl) rfl <| .loadB1 m2 (i := 20) rfl rfl rfl Tryz.underlying3 rfl <| .nil) ?_
 clear Hz Az; intro Az Hz
 refine wp_block ?_
 refine regS Hz (.eql rfl rfl <| .assign rfl <| .nil) ?_
 clear Hz Az; intro Az Hz
 refine bool_cases Hz (t := 7) rfl ?_ ?_
 rotate_left
 · intro hb _; exact absurd hb (by simp)
 clear Hz; intro _ Hz
 refine wp_cond_true (Hz.ev (x := .tmp 7) rfl) ?_
 refine wp_seq_k (fun K2 hK2 => ?_)
 refine wp_region_lit ?_
 refine goCh Hz (.move rfl <| .fieldAddr (off := 9) rfl Tryz.underlying50 rfl (s := 0) (by kernel_rfl) rfl <| .loadB1 m2 (i := 20) rfl rfl rfl Tryz.underlying48 rfl <| .nil) ?_
 clear Hz Az; intro Az Hz
 refine wpList_plain rfl (fun K hK => ?_)
 refine e_call Hz Tryz.func54 rfl rfl rfl rfl (vput_ok _ _ _ _ _ _ _ _ _ place pins ws items _ _ _ _ _ _ _ _ _ hl hI hio (m2.into [(1, 1), (2, 2), (3, 3)] (by decide) rfl)) ?_
 rintro e w15 ⟨pw15, cw15, rfl, hm15⟩
 have mx15 := m2.back hm15 [(1, 1), (2, 2), (3, 3)] (by decide); clear hm15 m2
 have m15 : MemOk _ _ [(1, _), (2, _), (3, _), (20, _)] _ := mx15.only [1, 2, 3, 20]; clear mx15
 refine ⟨_, rfl, ?_⟩; clear Hz Az; intro Az Hz
 refine hK _ _ ?_; clear hK K
 refine goCh Hz (.assign rfl .nil) ?_
 clear Hz Az; intro Az Hz
 refine wpList_nil ?_
 refine hK2 _ _ ?_; clear hK2; try clear K2
 refine wp_ret ?_
 try dsimp only [Exit.then, Exit.inBlock]
 refine (ret1 (fn := Tryz.f33) Hz rfl rfl ?_)
 exact ⟨_, _, rfl, m15.only [1, 2, 3]⟩
theorem vDo_put (X : Cx) (vo bl sz pe to ne fl : Int) (place pins : List Int) (ws : List (Int × List (Int × List Int))) (items : List (Int × List Int)) (pp pn pw : Option Addr) (cp cn9 cw : Nat) (pi : Option Addr) (ci : Nat) (v1 v2 v3 v4 v5 v6 v7 : Int) (q1 : Option Addr) (n1 c1 : Nat) (w0 : World) (hn : place.length ≤ 1000000) (hp : pins.length ≤ 1000000) (hl : ws.length ≤ 900000) (hI : ItemsR bl sz items) (hio : ItsOk items) (hok : WrsOk ws) (m0 : MemOk X w0 [(1, .dat (.slice pp place.length cp) (.ns .i64 place)), (2, .dat (.slice pn pins.length cn9) (.ns .i64 pins)), (3, .dat (.slice pw (ws.map wrD).length cw) (.l 2 (ws.map wrD))), (4, .dat (.slice pi items.length ci) (.l 2 (items.map itD)))] w0) :
   Calls Tryz.prog 14 #[.agg #[.int .i64 vo, .int .i64 bl, .int .i64 sz, .int .i64 pe, .slice pp place.length cp, .int .i64 to, .int .i64 ne, .bool false, .int .i64 fl, .slice pn pins.length cn9, .slice pw (ws.map wrD).length cw], .agg #[.int .i64 2, .int .i64 v1, .int .i64 v2, .int .i64 v3, .int .i64 v4, .slice q1 n1 c1, .int .i64 v5, .int .i64 v6, .int .i64 v7, .slice pi items.length ci]] w0 fun e w' => ∃ p1 c1 p2 c2 p3 c3, e = .returned (.tuple #[.agg #[.int .i64 vo, .int .i64 bl, .int .i64 sz, .int .i64 pe, .slice p1 place.length c1, .int .i64 to, .int .i64 ne, .bool false, .int .i64 fl, .slice p2 pins.length c2, .slice p3 ((ws ++ [((ws.length : Int) + 1, items)]).map wrD).length c3], .agg #[.int .i64 0, .int .i64 ((ws.length : Int) + 1), .int .i64 fl, .int .i64 ne, .slice none 0 0]]) ∧ MemOk X w0 [(1, .dat (.slice pp place.length cp) (.ns .i64 place)), (2, .dat (.slice pn pins.length cn9) (.ns .i64 pins)), (3, .dat (.slice pw (ws.map wrD).length cw) (.l 2 (ws.map wrD))), (4, .dat (.slice pi items.length ci) (.l 2 (items.map itD))), (5, .dat (.slice p1 place.length c1) (.ns .i64 place)), (6, .dat (.slice p2 pins.length c2) (.ns .i64 pins)), (7, .seg (.slice p3 ((ws ++ [((ws.length : Int) + 1, items)]).map wrD).length c3) 58 2 ((ws ++ [((ws.length : Int) + 1, items)]).map wrD))] w' := by
 refine enter (fn := Tryz.f14) Tryz.func14 rfl Tryz.ntmps14 rfl (fun Az Hz => ?_)
 simp only [List.zipIdx_cons, List.zipIdx_nil, List.map_cons, List.map_nil, Nat.reduceAdd, Nat.zero_add] at Hz
 refine wp_seq_k (fun K0 hK0 => ?_)
 refine wp_region_lit ?_
 refine wpList_plain rfl (fun K hK => ?_)
 refine e_box Hz m0 20 (cs := [_, _, _, _, _, _, _, _, _, _, _]) rfl rfl rfl ?_
 clear Hz Az m0; intro g1 Az w2 Hz m2 hB2 hg2
 clear hB2 hg2
 refine hK _ _ ?_; clear hK K
 refine wpList_plain rfl (fun K hK => ?_)
 refine e_box Hz m2 21 (cs := [_, _, _, _, _, _, _, _, _, _]) rfl rfl rfl ?_
 clear Hz Az m2; intro g3 Az w4 Hz m4 hB4 hg4
 clear hB4 hg4
 refine hK _ _ ?_; clear hK K
 refine wpList_plain rfl (fun K hK => ?_)
 refine e_alloc Hz m4 22 zc28vD rfl ?_
 clear Hz Az m4; intro g5 Az w6 Hz m6 hB6 hg6
 clear hB6 hg6
 refine hK _ _ ?_; clear hK K
 refine wpList_plain rfl (fun K hK => ?_)
 refine e_alloc Hz m6 23 zc45vD rfl ?_
 clear Hz Az m6; intro g7 Az w8 Hz m8 hB8 hg8
 clear hB8 hg8
 refine hK _ _ ?_; clear hK K
 refine wpList_nil ?_
 refine hK0 _ _ ?_; clear hK0; try clear K0
 refine wp_seq_k (fun K1 hK1 => ?_)
 refine wp_region_lit ?_
 refine goCh Hz (.loadBR m8 (i := 20) rfl rfl Tryz.underlying28 rfl sz28vD (by simp) (by dsimp only [List.drop, List.take] <;> rfl) .nil) ?_
 clear Hz Az; intro Az Hz
 refine wpList_plain rfl (fun K hK => ?_)
 refine e_call Hz Tryz.func32 rfl rfl rfl rfl (volcopy_fr _ _ _ _ _ _ _ _ _ place pins ws _ _ _ _ _ _ _ hn hp (by omega) hok (m8.into [(1, 1), (2, 2), (3, 3)] (by decide) rfl)) ?_
 rintro e w11 ⟨p111, c111, p211, c211, p311, c311, rfl, hm11⟩
 have mx11 := m8.back hm11 [(1, 1), (2, 2), (3, 3), (24, 4), (25, 5), (26, 6)] (by decide); clear hm11 m8
 have m11 : MemOk _ _ [(1, _), (2, _), (3, _), (24, _), (25, _), (26, _), (4, _), (20, _), (21, _), (22, _), (23, _)] _ := mx11.only [1, 2, 3, 24, 25, 26, 4, 20, 21, 22, 23]; clear mx11
 refine ⟨_, rfl, ?_⟩; clear Hz Az; intro Az Hz
 refine hK _ _ ?_; clear hK K
 refine wpList_plain rfl (fun K hK => ?_)
 refine e_storeW Hz m11 20 rfl rfl rfl rfl rfl sz28vD ?_
 clear m11; intro w13 m13 hB13
 clear hB13
 refine hK _ _ ?_; clear hK K
 refine wpList_nil ?_
 refine hK1 _ _ ?_; clear hK1; try clear K1
 refine wp_seq_k (fun K2 hK2 => ?_)
 refine wp_seq_k (fun K3 hK3 => ?_)
 refine wp_region_lit ?_
 refine goCh Hz (.loadBR m13 (i := 21) rfl rfl Tryz.underlying50 rfl sz50vD (by simp) (by dsimp only [List.drop, List.take] <;> rfl) .nil) ?_
 clear Hz Az; intro Az Hz
 refine wpList_plain rfl (fun K hK => ?_)
 refine e_call Hz Tryz.func33 rfl rfl rfl rfl (vdo_put _ _ _ _ _ _ _ _ _ place pins ws items _ _ _ _ _ _ _ _ _ _ _ _ _ _ _ _ _ _ _ hl hI hio (m13.into [(1, 20), (2, 26), (3, 4)] (by decide) rfl)) ?_
 rintro e w16 ⟨pw16, cw16, rfl, hm16⟩
 have mx16 := m13.back hm16 [(20, 1), (26, 2), (4, 3)] (by decide); clear hm16 m13
 have m16 : MemOk _ _ [(20, _), (26, _), (4, _), (1, _), (2, _), (3, _), (21, _), (22, _), (23, _), (24, _), (25, _)] _ := mx16.only [20, 26, 4, 1, 2, 3, 21, 22, 23, 24, 25]; clear mx16
 refine ⟨_, rfl, ?_⟩; clear Hz Az; intro Az Hz
 refine hK _ _ ?_; clear hK K
 refine goCh Hz (.assign rfl .nil) ?_
 clear Hz Az; intro Az Hz
 refine wpList_nil ?_
 refine hK3 _ _ ?_; clear hK3; try clear K3
 replace Hz : Has 24 [(2, _), (4, _), (5, _), (6, _)] Az := Hz.only [2, 4, 5, 6]
 refine regS Hz (.move rfl <| .neq rfl rfl <| .nil) ?_
 clear Hz Az; intro Az Hz
 refine bool_cases Hz (t := 12) rfl ?_ ?_
 · intro hb _; exact absurd hb (by simp)
 clear Hz; intro _ Hz
 refine wp_cond_false (Hz.ev (x := .tmp 12) rfl) ?_
 refine wp_skip ?_
 refine hK2 _ _ ?_; clear hK2; try clear K2
 refine wp_seq_k (fun K4 hK4 => ?_)
 have m23 : MemOk _ _ [(1, _), (2, _), (3, _), (4, _), (20, _), (21, _), (22, _), (23, _), (24, _), (25, _), (26, _)] _ := m16.only [1, 2, 3, 4, 20, 21, 22, 23, 24, 25, 26]; clear m16
 refine region_p 10 (B := [(20, _)]) (m23.to ⟨il, trivial⟩) m23 (by kernel_rfl) (fun w24 hP24 m24 => ?_); clear m23
 refine goR hP24 [0, 1, 3, 4, 5, 6] [0, 1, 4, 6] 6 0 123 Hz (m24.to ⟨il, trivial⟩) (.loadBR hh (i := 20) rfl rfl Tryz.underlying28 rfl sz28vD (by simp) (by dsimp only [List.drop, List.take] <;> rfl) <| .loadBR hh (i := 20) rfl rfl Tryz.underlying28 rfl sz28vD (by simp) (by dsimp only [List.drop, List.take] <;> rfl) <| .fieldAddr (off := 8) rfl Tryz.underlying28 rfl (s := 0) (by kernel_rfl) rfl <| .loadB1 hh (i := 20) rfl rfl rfl Tryz.underlying2 rfl <| .fieldAddr (off := 6) rfl Tryz.underlying28 rfl (s := 0) (by kernel_rfl) rfl <| .loadB1 hh (i := 20) rfl rfl rfl Tryz.underlying3 rfl <| .nil) ?_
 clear Hz Az; intro Az Hz
 refine stepE_only 2 rfl (by kernel_rfl) rfl (fun K hK => ?_)
 refine e_call Hz Tryz.func18 rfl rfl rfl rfl (vlen_any _ _ _ _ _ _ _ _ _ _ _ _ _ _ _ _ _ _) ?_
 rintro e w31 ⟨rfl, hb31⟩
 have m32 := m24.later hb31
 clear m24
 clear hb31
 refine ⟨_, rfl, ?_⟩; clear Hz Az; intro Az Hz
 refine hK _ _ (m32.to ⟨il, trivial⟩) ?_; clear hK K
 refine goA hP24 [7] 1 127 255 Hz (m32.to ⟨il, trivial⟩) (.build rfl zc45vD fl45vD rfl (by dsimp only [setL, List.set] <;> rfl) <| .nil) ?_
 clear Hz Az; intro Az Hz
 refine stepE_only 8 rfl (by kernel_rfl) rfl (fun K hK => ?_)
 refine e_storeW Hz m32 22 rfl rfl rfl rfl rfl sz28vD ?_
 clear m32; intro w35 m35 hB35
 clear hB35
 refine hK _ _ (m35.to ⟨il, trivial⟩) ?_; clear hK K
 refine stepE_only 9 rfl (by kernel_rfl) rfl (fun K hK => ?_)
 refine e_storeW Hz m35 23 rfl rfl rfl rfl rfl sz45vD ?_
 clear m35; intro w36 m36 hB36
 clear hB36
 refine hK _ _ (m36.to ⟨il, trivial⟩) ?_; clear hK K
 refine wpAnyE_done (by kernel_rfl) ?_ _
 refine hK4 _ _ ?_; clear hK4; try clear K4
 refine wp_ret ?_
 try dsimp only [Exit.then, Exit.inBlock]
 refine (retCC (fn := Tryz.f14) Hz m36 (i := 22) (i2 := 23) rfl rfl rfl rfl rfl Tryz.underlying28 rfl sz28vD Tryz.underlying45 rfl sz45vD ?_)
 have hlen : (((((ws ++ [((ws.length : Int) + 1, items)])).map wrD).length : Nat) : Int) = (ws.length : Int) + 1 := by simp
 exact ⟨_, _, _, _, _, _, by rw [hlen], m36.ren [(1, 1), (2, 2), (3, 3), (4, 4), (5, 24), (6, 25), (7, 26)] (by decide)⟩
end Go.Proofs.YtocfbocdnklllaaGreat.K
