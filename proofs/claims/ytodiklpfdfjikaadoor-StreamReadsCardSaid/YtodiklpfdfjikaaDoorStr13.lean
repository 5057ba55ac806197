/- stream: Same of the program. -/
import Derived.Test.YtodiklpfdfjikaaDoorStr13y
namespace Go.Proofs.YtodiklpfdfjikaaDoor.K
open Go.ChangeShapes Go.WideShapes Go.ChangeAt Go.RowKit
set_option linter.unusedVariables false
set_option linter.unusedSimpArgs false
set_option maxRecDepth 100000
set_option maxHeartbeats 4000000
theorem beq_any (xd : List Int) (p1 p2 : Option Addr) (c1 c2 : Nat) (w0 : World) (h1 : Rd (fun _ => True) w0 (.slice p1 xd.length c1) (.ns .u8 xd)) (h2 : Rd (fun _ => True) w0 (.slice p2 xd.length c2) (.ns .u8 xd)) :
   Calls Tryd.prog 25 #[.slice p1 xd.length c1, .slice p2 xd.length c2] w0 fun e w' => e = .returned (.bool true) ∧ Below w0.heap.size w0 w' := by
 refine ent2 Tryd.func25 rfl Tryd.ntmps25 fun Az Hz => ?_
 have m0 := MemOk.start (fun _ => False) w0
 refine regS Hz (.assign rfl <| .nil) fun Az Hz => ?_
 refine regS Hz (.move rfl <| .str rfl (h1.now' m0 rfl).ns_out.nums U22 U5 U9 <| .move rfl <| .str rfl (h2.now' m0 rfl).ns_out.nums U22 U5 U9 <| .eqlS rfl rfl <| .assign rfl <| .nil) fun Az Hz => ?_
 refine rtd (ret1 (fn := Tryd.f25) Hz rfl rfl ?_)
 exact ⟨by simp, m0.below⟩
theorem clo_any (xb : Int) (xd : List Int) (p1 p2 : Option Addr) (c1 c2 : Nat) (w0 : World) (h1 : Rd (fun _ => True) w0 (.slice p1 xd.length c1) (.ns .u8 xd)) (h2 : Rd (fun _ => True) w0 (.slice p2 xd.length c2) (.ns .u8 xd)) :
   Calls Tryd.prog 54 #[.agg #[.int .i64 xb, .slice p1 xd.length c1], .agg #[.int .i64 xb, .slice p2 xd.length c2]] w0 fun e w' => e = .returned (.bool true) ∧ Below w0.heap.size w0 w' := by
 refine ent2 Tryd.func54 rfl Tryd.ntmps54 fun Az Hz => ?_
 have m0 := MemOk.start (fun _ => False) w0
 refine zsr fun K0 hK0 => ?_
 refine plz (e_box Hz m0 9 (cs := [_, _]) rfl rfl rfl fun g1 Az w2 Hz m2 _ _ => ?_)
 refine plz (e_box Hz m2 10 (cs := [_, _]) rfl rfl rfl fun g3 Az w4 Hz m4 _ _ => ?_)
 refine goCh Hz (.assign rfl .nil) fun Az Hz => ?_
 refine znl (hK0 _ _ ?_); clear hK0
 refine zsr fun K1 hK1 => ?_
 refine goCh Hz (.fa 0 rfl U46 <| .lb m4 9 U3 rfl rfl rfl <| .fa 0 rfl U46 <| .lb m4 10 U3 rfl rfl rfl <| .eql rfl rfl <| .move rfl <| .nil) fun Az Hz => ?_
 refine bc Hz 10 ?_ ?_
 rotate_left
 · intro hb _; exact absurd hb (by simp)
 clear Hz; intro _ Hz
 refine goCh Hz (.faZ 1 rfl U46 <| .loadB1Z m4 (i := 9) rfl rfl rfl U22 rfl <| .faZ 1 rfl U46 <| .loadB1Z m4 (i := 10) rfl rfl rfl U22 rfl <| .nil) fun Az Hz => ?_
 refine stz Hz (ecb Hz Tryd.func25 rfl m4 (beq_any xd _ _ _ _ _ ((h1.now' m4 rfl).any) ((h2.now' m4 rfl).any)) fun Az w23 Hz m24 => ?_)
 refine goCh Hz (.pickT rfl rfl <| .assign rfl <| .nil) fun Az Hz => ?_
 refine znl (hK1 _ _ ?_); clear hK1
 refine rtd (ret1 (fn := Tryd.f54) Hz rfl rfl ?_)
 exact ⟨by simp, m24.below⟩
theorem eqf_any (es : List (Int × List Int)) (p1 p2 : Option Addr) (n1 n2 c1 c2 : Nat) (w0 : World) (h1 : Rd (fun _ => True) w0 (.slice p1 n1 c1) (.l 2 (es.map itD))) (h2 : Rd (fun _ => True) w0 (.slice p2 n2 c2) (.l 2 (es.map itD))) (hl : es.length ≤ 1000000) :
   Calls Tryd.prog 53 #[.slice p1 n1 c1, .slice p2 n2 c2, .func (.func 54) #[] #[]] w0 fun e w' => e = .returned (.bool true) ∧ Below w0.heap.size w0 w' := by
 obtain rfl : n1 = es.length := by obtain ⟨pq, cq, hv, _⟩ := h1.l_shape; injection hv with _ e2 _; rw [List.length_map] at e2; exact e2
 obtain rfl : n2 = es.length := by obtain ⟨pq, cq, hv, _⟩ := h2.l_shape; injection hv with _ e2 _; rw [List.length_map] at e2; exact e2
 refine ent3 Tryd.func53 rfl Tryd.ntmps53 fun Az Hz => ?_
 have m0 := MemOk.start (fun _ => False) w0
 refine regS Hz (.assign rfl <| .nil) fun Az Hz => ?_
 refine wp_seq_k (fun K0 hK0 => ?_)
 refine regS Hz (.move rfl <| .len rfl U27 <| .move rfl <| .len rfl U27 <| .neq rfl rfl <| .nil) fun Az Hz => ?_
 refine bc Hz 14 ?_ ?_
 · intro hb _; exact absurd hb (by simp)
 clear Hz; intro _ Hz
 refine wcf Hz ?_
 refine zss (hK0 _ _ ?_); clear hK0
 refine wp_seq_k (fun K1 hK1 => ?_)
 refine regS Hz (.move rfl <| .len rfl U27 <| .move rfl <| .nil) fun Az Hz => ?_
 refine wp_block ?_
 refine wp_loop_ghost (fun g a w => ∃ k : Nat, k ≤ es.length ∧ g = es.length - k ∧ Has 32 [(0, .slice p1 es.length c1), (1, .slice p2 es.length c2), (2, .func (.func 54) #[] #[]), (15, .slice p1 es.length c1), (16, .int .i64 es.length), (17, .int .i64 k)] a ∧ MemOk (cn w0) w0 [] w) (es.length) ?_ ?_
 · exact ⟨0, Nat.zero_le _, rfl, Hz.only [0, 1, 2, 15, 16, 17], m0.only []⟩
 clear Hz m0
 rintro g Az w11 ⟨k, hkl, hg, Hz, m11⟩
 refine regS Hz (.lss rfl rfl <| .nil) fun Az Hz => ?_
 refine wp_seq_k (fun K2 hK2 => ?_)
 refine bc Hz 18 ?_ ?_
 ·
  intro hb13 Hz; try simp only [QQ, Qax] at hb13
  have hk : k < es.length := by omega
  obtain ⟨⟨xb, xd⟩, hes⟩ : ∃ e, es[k]? = some e := ⟨_, List.getElem?_eq_getElem hk⟩
  refine wct Hz ?_
  refine zss (hK2 _ _ ?_); clear hK2
  refine wp_seq_k (fun K3 hK3 => ?_)
  refine wp_block ?_
  refine zsr fun K4 hK4 => ?_
  refine goCh Hz (.move rfl .nil) fun Az Hz => ?_
  obtain ⟨gx17, ox17, vx17, hp17, hl17, hR17, hrg17⟩ := h1.extA (k) (r := [.v (.int .i64 xb), .ns .u8 xd]) (itD_get hes)
  revert Hz
  cases hp17; clear hl17
  rcases hR17 with _ | ⟨hd17_0, _ | ⟨hd17_1, _ | _⟩⟩
  obtain rfl := hd17_0.v_out
  clear hd17_0
  obtain ⟨p18, c18, hv18, hw18⟩ := hd17_1.ns_shape; subst hv18
  intro Hz
  refine goCh Hz (.c rfl (fun _ h => y_idx h rfl rfl U27 fct15 (k) rfl hk) <| .loadAt (hrg17 m11 rfl) rfl U46 rfl fct15 <| .nil) fun Az Hz => ?_
  refine plz (e_alloc Hz m11 101 fct18 rfl fun g21 Az w22 Hz m22 _ _ => ?_)
  refine goCh Hz (.assign rfl .nil) fun Az Hz => ?_
  refine plz (e_storeW Hz m22 101 rfl rfl rfl rfl rfl fct15 fun w24 m24 _ => ?_)
  refine znl (hK4 _ _ ?_); clear hK4
  refine zsr fun K5 hK5 => ?_
  refine goCh Hz (.move rfl <| .move rfl <| .nil) fun Az Hz => ?_
  obtain ⟨gx30, ox30, vx30, hp30, hl30, hR30, hrg30⟩ := h2.extA (k) (r := [.v (.int .i64 xb), .ns .u8 xd]) (itD_get hes)
  revert Hz
  cases hp30; clear hl30
  rcases hR30 with _ | ⟨hd30_0, _ | ⟨hd30_1, _ | _⟩⟩
  obtain rfl := hd30_0.v_out
  clear hd30_0
  obtain ⟨p31, c31, hv31, hw31⟩ := hd30_1.ns_shape; subst hv31
  intro Hz
  refine goCh Hz (.c rfl (fun _ h => y_idx h rfl rfl U27 fct15 (k) rfl hk) <| .loadAt (hrg30 m24 rfl) rfl U46 rfl fct15 <| .nil) fun Az Hz => ?_
  refine plz (e_alloc Hz m24 103 fct18 rfl fun g34 Az w35 Hz m35 _ _ => ?_)
  refine plz (e_storeW Hz m35 103 rfl rfl rfl rfl rfl fct15 fun w36 m36 _ => ?_)
  refine znl (hK5 _ _ ?_); clear hK5
  replace Hz : Has 32 [(0, _), (1, _), (2, _), (15, _), (16, _), (17, _), (8, _), (9, _)] Az := Hz.only [0, 1, 2, 15, 16, 17, 8, 9]
  refine zsr fun K6 hK6 => ?_
  refine goCh Hz (.move rfl <| .loadBR m36 (i := 101) rfl rfl U46 rfl fct15 (by simp) (by dsimp only [List.drop, List.take] <;> rfl) <| .loadBR m36 (i := 103) rfl rfl U46 rfl fct15 (by simp) (by dsimp only [List.drop, List.take] <;> rfl) <| .nil) fun Az Hz => ?_
  refine plz (e_callV Hz rfl Tryd.func54 rfl rfl rfl rfl (clo_any xb xd _ _ _ _ _ ((hd17_1.now' m36 rfl).any) ((hd30_1.now' m36 rfl).any)) ?_)
  rintro e w44 ⟨rfl, hb44⟩
  have m45 := m36.later hb44
  clear m36
  clear hb44
  refine ⟨_, rfl, ?_⟩; intro Az Hz
  refine goCh Hz (.not rfl .nil) fun Az Hz => ?_
  refine znl (hK6 _ _ ?_); clear hK6
  refine wcf Hz ?_
  refine zss (hK3 _ _ ?_); clear hK3
  replace Hz : Has 32 [(0, _), (1, _), (2, _), (15, _), (16, _), (17, _)] Az := Hz.only [0, 1, 2, 15, 16, 17]
  refine wp_region_lit ?_
  refine goCh Hz (.add rfl rfl (r := ((k + 1 : Nat) : Int)) (by rw [IntWalk.i64_in _ (by omega)]; omega) <| .move rfl <| .nil) fun Az Hz => ?_
  refine wpList_nil ?_
  show ∃ n', n' < _ ∧ _
  exact ⟨es.length - (k + 1), by omega, k + 1, by omega, rfl, Hz.only [0, 1, 2, 15, 16, 17], m45.only []⟩
 intro hb13 Hz; try simp only [QQ, Qax] at hb13
 revert Hz
 obtain rfl : k = es.length := by omega
 intro Hz
 refine wcf Hz ?_
 refine wp_exit ?_
 refine hK1 _ _ ?_; clear hK1
 refine regS Hz (.assign rfl <| .nil) fun Az Hz => ?_
 refine rtd (ret1 (fn := Tryd.f53) Hz rfl rfl ?_)
 exact ⟨rfl, m11.below⟩
theorem psi_any (es : List (Int × List Int)) (p1 p2 : Option Addr) (n1 n2 c1 c2 : Nat) (w0 : World) (h1 : Rd (fun _ => True) w0 (.slice p1 n1 c1) (.l 2 (es.map itD))) (h2 : Rd (fun _ => True) w0 (.slice p2 n2 c2) (.l 2 (es.map itD))) (hl : es.length ≤ 1000000) :
   Calls Tryd.prog 37 #[.slice p1 n1 c1, .slice p2 n2 c2] w0 fun e w' => e = .returned (.bool true) ∧ Below w0.heap.size w0 w' := by
 refine ent2 Tryd.func37 rfl Tryd.ntmps37 fun Az Hz => ?_
 have m0 := MemOk.start (fun _ => False) w0
 refine regS Hz (.assign rfl <| .nil) fun Az Hz => ?_
 refine zsr fun K0 hK0 => ?_
 refine goCh Hz (.move rfl <| .move rfl <| .nil) fun Az Hz => ?_
 refine plz (ecb Hz Tryd.func53 rfl m0 (eqf_any es _ _ _ _ _ _ _ ((h1.now' m0 rfl).any) ((h2.now' m0 rfl).any) hl) fun Az w6 Hz m7 => ?_)
 refine goCh Hz (.assign rfl .nil) fun Az Hz => ?_
 refine znl (hK0 _ _ ?_); clear hK0
 refine rtd (ret1 (fn := Tryd.f37) Hz rfl rfl ?_)
 exact ⟨rfl, m7.below⟩
theorem ssame_yes (bl sz fr to : Int) (its : List (Int × List Int)) (p1 p2 : Option Addr) (n1 c1 n2 c2 : Nat) (w0 : World) (h1 : Rd (fun _ => True) w0 (.slice p1 n1 c1) (.l 2 (its.map itD))) (h2 : Rd (fun _ => True) w0 (.slice p2 n2 c2) (.l 2 (its.map itD))) (hl : its.length ≤ 1000000) :
   Calls Tryd.prog 14 #[.agg #[.int .i64 bl, .int .i64 sz, .int .i64 fr, .int .i64 to, .slice p1 n1 c1], .agg #[.int .i64 bl, .int .i64 sz, .int .i64 fr, .int .i64 to, .slice p2 n2 c2]] w0 fun e w' => e = .returned (.bool true) ∧ Below w0.heap.size w0 w' := by
 refine ent2 Tryd.func14 rfl Tryd.ntmps14 fun Az Hz => ?_
 have m0 := MemOk.start (fun _ => False) w0
 refine zsr fun K0 hK0 => ?_
 refine plz (e_box Hz m0 20 (cs := [_, _, _, _, _]) rfl rfl rfl fun g1 Az w2 Hz m2 _ _ => ?_)
 refine plz (e_box Hz m2 21 (cs := [_, _, _, _, _]) rfl rfl rfl fun g3 Az w4 Hz m4 _ _ => ?_)
 refine goCh Hz (.assign rfl .nil) fun Az Hz => ?_
 refine znl (hK0 _ _ ?_); clear hK0
 refine wp_seq_k (fun K1 hK1 => ?_)
 have m6 : MemOk _ _ [(20, _), (21, _)] _ := m4.only [20, 21]; clear m4
 refine region_p 10 (B := [(20, _), (21, _)]) (m6.to ⟨il, il, trivial⟩) m6 (by kernel_rfl) (fun w7 hP7 m7 => ?_); clear m6
 refine goR hP7 [0, 2] [0, 2] 2 0 5 Hz (m7.to ⟨il, il, trivial⟩) (.loadBR hh (i := 20) rfl rfl U29 rfl fct11 (by simp) (by dsimp only [List.drop, List.take] <;> rfl) <| .loadBR hh (i := 21) rfl rfl U29 rfl fct11 (by simp) (by dsimp only [List.drop, List.take] <;> rfl) <| .nil) fun Az Hz => ?_
 refine so 1 ?_
 refine ecb Hz Tryd.func36 rfl m7 (headOf_any _ _ _ _ _ _ _ _) fun Az w10 Hz m11 => ?_
 refine ⟨m11.to ⟨il, il, trivial⟩, ?_⟩
 refine so 3 ?_
 refine ecb Hz Tryd.func36 rfl m11 (headOf_any _ _ _ _ _ _ _ _) fun Az w13 Hz m14 => ?_
 refine ⟨m14.to ⟨il, il, trivial⟩, ?_⟩
 refine goA hP7 [4, 5] 2 15 63 Hz (m14.to ⟨il, il, trivial⟩) (.p (fun _ _ h => y_eqlH h rfl rfl) <| .move rfl <| .nil) fun Az Hz => ?_
 refine bc Hz 10 ?_ ?_
 rotate_left
 · intro hb _; exact absurd hb (by simp)
 clear Hz; intro _ Hz
 refine goR hP7 [6, 7, 8, 9] [7, 9] 4 63 1023 Hz (m14.to ⟨il, il, trivial⟩) (.fa 4 rfl U29 <| .lb hh 20 U27 rfl rfl rfl <| .fa 4 rfl U29 <| .lb hh 21 U27 rfl rfl rfl <| .nil) fun Az Hz => ?_
 refine stepE_end 10 rfl (by kernel_rfl) (wantedG Hz rfl rfl rfl rfl) (by rfl) (fun K hK => ?_)
 refine e_call Hz Tryd.func37 rfl rfl rfl rfl (psi_any its _ _ _ _ _ _ _ ((h1.now' m14 rfl).any) ((h2.now' m14 rfl).any) hl) ?_
 rintro e w23 ⟨rfl, hb23⟩
 have m24 := m14.later hb23
 clear m14
 clear hb23
 refine ⟨_, rfl, ?_⟩; intro Az Hz
 refine hK _ _ ?_; clear hK
 refine goB hP7 [11, 12] 2 2047 8191 Hz (.pickT rfl rfl <| .assign rfl <| .nil) fun Az Hz => ?_
 refine wpAnyE_done (by kernel_rfl) ?_ _
 refine hK1 _ _ ?_; clear hK1
 refine rtd (ret1 (fn := Tryd.f14) Hz rfl rfl ?_)
 exact ⟨rfl, m24.below⟩
theorem ssame_no (bl sz fr to bl' sz' fr' to' : Int) (p1 p2 : Option Addr) (n1 c1 n2 c2 : Nat) (w0 : World) (hne : ¬ (bl = bl' ∧ sz = sz' ∧ fr = fr' ∧ to = to')) :
   Calls Tryd.prog 14 #[.agg #[.int .i64 bl, .int .i64 sz, .int .i64 fr, .int .i64 to, .slice p1 n1 c1], .agg #[.int .i64 bl', .int .i64 sz', .int .i64 fr', .int .i64 to', .slice p2 n2 c2]] w0 fun e w' => e = .returned (.bool false) ∧ Below w0.heap.size w0 w' := by
 refine ent2 Tryd.func14 rfl Tryd.ntmps14 fun Az Hz => ?_
 have m0 := MemOk.start (fun _ => False) w0
 refine zsr fun K0 hK0 => ?_
 refine plz (e_box Hz m0 20 (cs := [_, _, _, _, _]) rfl rfl rfl fun g1 Az w2 Hz m2 _ _ => ?_)
 refine plz (e_box Hz m2 21 (cs := [_, _, _, _, _]) rfl rfl rfl fun g3 Az w4 Hz m4 _ _ => ?_)
 refine goCh Hz (.assign rfl .nil) fun Az Hz => ?_
 refine znl (hK0 _ _ ?_); clear hK0
 refine wp_seq_k (fun K1 hK1 => ?_)
 have m6 : MemOk _ _ [(20, _), (21, _)] _ := m4.only [20, 21]; clear m4
 refine region_p 3 (B := [(20, _), (21, _)]) (m6.to ⟨il, il, trivial⟩) m6 (by kernel_rfl) (fun w7 hP7 m7 => ?_); clear m6
 refine goR hP7 [0, 2] [0, 2] 2 0 5 Hz (m7.to ⟨il, il, trivial⟩) (.loadBR hh (i := 20) rfl rfl U29 rfl fct11 (by simp) (by dsimp only [List.drop, List.take] <;> rfl) <| .loadBR hh (i := 21) rfl rfl U29 rfl fct11 (by simp) (by dsimp only [List.drop, List.take] <;> rfl) <| .nil) fun Az Hz => ?_
 refine so 1 ?_
 refine ecb Hz Tryd.func36 rfl m7 (headOf_any _ _ _ _ _ _ _ _) fun Az w10 Hz m11 => ?_
 refine ⟨m11.to ⟨il, il, trivial⟩, ?_⟩
 refine se 3 ?_
 refine ecb Hz Tryd.func36 rfl m11 (headOf_any _ _ _ _ _ _ _ _) fun Az w13 Hz m14 => ?_
 refine goB hP7 [4, 5] 2 15 63 Hz (.p (fun _ _ h => y_eqlH h rfl rfl) <| .move rfl <| .nil) fun Az Hz => ?_
 refine bc Hz 10 ?_ ?_
 · intro hb _; exact absurd hb (by simp; omega)
 clear Hz; intro _ Hz
 refine goB hP7 [6, 7, 8, 9, 10, 11, 12] 7 63 8191 Hz (.s <| .s <| .s <| .s <| .s <| .pickF rfl rfl <| .assign rfl <| .nil) fun Az Hz => ?_
 refine wpAnyE_done (by kernel_rfl) ?_ _
 refine hK1 _ _ ?_; clear hK1
 refine rtd (ret1 (fn := Tryd.f14) Hz rfl rfl ?_)
 exact ⟨rfl, m14.below⟩
end Go.Proofs.YtodiklpfdfjikaaDoor.K
