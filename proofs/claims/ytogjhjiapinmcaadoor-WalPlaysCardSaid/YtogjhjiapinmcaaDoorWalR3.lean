/- The reference's record. -/
import Derived.Test.YtogjhjiapinmcaaDoorWalV3
namespace Go.Proofs.YtogjhjiapinmcaaDoor.K
open Go.ChangeShapes Go.WideShapes Go.ChangeAt Go.RowKit
set_option linter.unusedVariables false
set_option linter.unusedSimpArgs false

theorem inf5rrc : (Tryd.prog.info? 5).map (fun i => (i.zero, i.size, i.bytes)) = some (some (.int .u8 0), 1, 1) := by kernel_rfl
theorem inf24rrc : (Tryd.prog.info? 24).map (fun i => (i.zero, i.size, i.bytes)) = some (some (.slice none 0 0), 1, 24) := by kernel_rfl
theorem sz5rrc : (Tryd.prog.info? 5).map (·.size) = some 1 := by kernel_rfl

set_option maxRecDepth 100000
set_option maxHeartbeats 4000000
theorem chs_snoc {gn : Int} {b : List Int} {k Z : Nat} (hk : k < (secN (recN b.length))) (hZ : (recV b).length + Z = 48 * (secN (recN b.length))) : ((List.range k).map (chunkP gn (recV b))).map bD ++ [[D.ns .u8 (genB gn ++ ((recV b ++ List.replicate Z 0).take (48 * k + 48)).drop (48 * k) ++ genB gn)]] = ((List.range (k + 1)).map (chunkP gn (recV b))).map bD := by
 rw [List.range_succ, List.map_append, List.map_append]
 congr 1
 have e : ((recV b ++ List.replicate Z 0).take (48 * k + 48)).drop (48 * k) = pieceP (recV b) k := by
   rw [List.drop_take, show 48 * k + 48 - 48 * k = 48 by omega, piece_at hZ (by rw [recV_len]; unfold secN at hk; omega) hk]
 rw [e, List.append_assoc]; rfl
theorem MemOk.partN {X : Cx} {M : Mm} {w0 w : World} (m : MemOk X w0 M w) {i : Nat} {p : Option Addr} {l c : Nat} {k : IntKind} {zs : List Int} (hm : lk M i = some (.dat (.slice p l c) (.ns k zs))) (a b : Nat) (hab : a ≤ b) (hb : b ≤ zs.length) (i2 : Nat) (hi2 : lk M i2 = none) : MemOk X w0 ((i2, .dat (.slice (if c = a then p else p.map (·.add (a * 1))) (b - a) (c - a)) (.ns k ((zs.take b).drop a))) :: M) w :=
 m.dat i2 hi2 (.ns (((m.rd hm).ns_out.take b hb).drop a (by rw [List.length_take]; omega)))
theorem record_x (gn : Int) (b : List Int) (q : Option Addr) (cq : Nat) (w0 : World) (h0 : Rd (fun _ => True) w0 (.slice q b.length cq) (.ns .u8 b)) (hbb : BytesL b) (hbl : b.length ≤ 9000) :
   Calls Tryd.prog 28 #[.int .u64 gn, .slice q b.length cq] w0 fun e w' => ∃ (p : Option Addr) (c : Nat), e = .returned (.slice p ((List.range (secN (recN b.length))).map (chunkP gn (recV b))).length c) ∧ Rd (New w0) w' (.slice p ((List.range (secN (recN b.length))).map (chunkP gn (recV b))).length c) (.l 1 (((List.range (secN (recN b.length))).map (chunkP gn (recV b))).map bD)) ∧ Below w0.heap.size w0 w' := by
 have hrn := recN_le (n := b.length)
 have hrg := recN_ge (n := b.length)
 refine enter (fn := Tryd.f28) Tryd.func28 rfl Tryd.ntmps28 rfl (fun Az Hz => ?_)
 simp only [List.zipIdx_cons, List.zipIdx_nil, List.map_cons, List.map_nil, Nat.reduceAdd, Nat.zero_add] at Hz
 have m0 := MemOk.start (fun _ => False) w0
 refine regS Hz (.assign rfl <| .nil) ?_
 clear Hz Az; intro Az Hz
 refine wp_seq_k (fun K0 hK0 => ?_)
 refine wp_region_lit ?_
 refine goCh Hz (.move rfl .nil) ?_
 clear Hz Az; intro Az Hz
 refine wpList_plain rfl (fun K hK => ?_)
 refine e_call Hz Tryd.func41 rfl rfl rfl rfl (rlump_x b _ _ _ ((h0.now' m0 rfl).any) (by omega)) ?_
 rintro e w4 ⟨p4, c4, rfl, ho4, hb4⟩
 have m5 := m0.newN 20 hb4 ho4
 clear m0
 clear hb4 ho4
 refine ⟨_, rfl, ?_⟩; clear Hz Az; intro Az Hz
 refine hK _ _ ?_; clear hK K
 have m7 := m5.freezeN 20 rfl; clear m5
 refine wpList_plain rfl (fun K hK => ?_)
 refine e_call Hz Tryd.func40 rfl rfl rfl rfl (rseal_x _ (enc b.length ++ b) _ (m7.rd (i := 20) rfl).any (bytesApp (encBytes (by omega)) hbb) (by rw [List.length_append]; have := (enc_len (b.length : Int)).1; omega)) ?_
 rintro e w8 ⟨p8, c8, rfl, ho8, hb8⟩
 have m9 := m7.newN 21 hb8 ho8
 clear m7
 clear hb8 ho8
 refine ⟨_, rfl, ?_⟩; clear Hz Az; intro Az Hz
 refine hK _ _ ?_; clear hK K
 refine goCh Hz (.assign rfl .nil) ?_
 clear Hz Az; intro Az Hz
 refine wpList_nil ?_
 refine hK0 _ _ ?_; clear hK0; try clear K0
 refine wp_seq_k (fun K1 hK1 => ?_)
 refine wp_block ?_
 refine wp_loop_ghost (fun g a w => ∃ (k : Nat) (p : Option Addr) (c : Nat), recN b.length + k ≤ 48 * (secN (recN b.length)) ∧ g = 48 * (secN (recN b.length)) - (recN b.length + k) ∧ Has 39 [(0, .int .u64 gn), (5, .slice p (recV b ++ List.replicate k 0).length c)] a ∧ MemOk (cn w0) w0 [(9, .num (.slice p (recV b ++ List.replicate k 0).length c) 5 .u8 (recV b ++ List.replicate k 0))] w) (48 * (secN (recN b.length)) - recN b.length) ?_ ?_
 · have e8 : recV b ++ List.replicate 0 0 = recV b := by simp
   exact ⟨0, _, _, by unfold secN; omega, rfl, by rw [e8]; exact Hz.only [0, 5], by rw [e8]; exact m9.ren [(9, 21)] (by decide)⟩
 ·
  clear Hz m9
  rintro g Az w12 ⟨k, p, c, hkz, hg, Hz, m12⟩
  refine wp_seq_k (fun K2 hK2 => ?_)
  refine regS Hz (.move rfl <| .len rfl Tryd.underlying24 <| .rem rfl rfl (by decide) (r := (((recV b ++ List.replicate k 0).length % 48 : Nat) : Int)) (by rw [Int.tmod_eq_emod_of_nonneg (by omega)]; omega) <| .neq rfl rfl <| .nil) ?_
  clear Hz Az; intro Az Hz
  refine bool_cases Hz (t := 14) rfl ?_ ?_
  ·
   clear Hz; intro hb17 Hz
   try simp only [Q1x, Q2x, Q3x, Q4x, Q5x, Q6x, Q7x, Q8x, Q9x, Q0x, Qax, Qbx] at hb17
   have hk : recN b.length + k < 48 * (secN (recN b.length)) := by
     have := hb17; rw [List.length_append, List.length_replicate, recV_len] at this; unfold secN at hkz ⊢; first | omega | (simp at this; omega)
   refine wp_cond_true (Hz.ev (x := .tmp 14) rfl) ?_
   refine wp_skip ?_
   refine hK2 _ _ ?_; clear hK2; try clear K2
   refine wp_block ?_
   refine wp_region_lit ?_
   refine goCh Hz (.move rfl .nil) ?_
   clear Hz Az; intro Az Hz
   refine wpList_plain rfl (fun K hK => ?_)
   refine e_litN Hz m12 100 (k := .u8) rfl rfl Tryd.underlying24 inf5rrc rfl rfl rfl rfl ?_
   clear Hz Az m12; intro g19 Az w20 Hz m20
   refine hK _ _ ?_; clear hK K
   refine wpList_plain rfl (fun K hK => ?_)
   refine e_appN Hz m20 9 rfl rfl rfl (m20.numsO (i := 100) rfl) Tryd.underlying24 inf5rrc (by decide) (by rw [List.length_append, List.length_replicate, recV_len]; simp; unfold secN at hkz; omega) rfl ?_
   clear Hz Az m20; intro p21 c21 Az w22 Hz m22
   refine hK _ _ ?_; clear hK K
   refine goCh Hz (.assign rfl .nil) ?_
   clear Hz Az; intro Az Hz
   refine wpList_nil ?_
   show ∃ n', n' < _ ∧ _
   rw [padS] at Hz m22
   exact ⟨48 * (secN (recN b.length)) - (recN b.length + (k + 1)), by omega, k + 1, _, _, by omega, rfl, Hz.only [0, 5], m22.only [9]⟩
  ·
   clear Hz; intro hb17 Hz
   try simp only [Q1x, Q2x, Q3x, Q4x, Q5x, Q6x, Q7x, Q8x, Q9x, Q0x, Qax, Qbx] at hb17
   have hk : recN b.length + k = 48 * (secN (recN b.length)) := by
     have := hb17; rw [List.length_append, List.length_replicate, recV_len] at this; unfold secN at hkz ⊢; first | omega | (simp at this; omega)
   have hZ : (recV b).length + k = 48 * (secN (recN b.length)) := by rw [recV_len]; exact hk
   have hRl : (recV b ++ List.replicate k 0).length = 48 * (secN (recN b.length)) := by rw [List.length_append, List.length_replicate]; exact hZ
   generalize k = ZZ at *
   refine wp_cond_false (Hz.ev (x := .tmp 14) rfl) ?_
   refine wp_exit ?_
   refine hK1 _ _ ?_; clear hK1; try clear K1
   refine regS Hz (.assign rfl <| .nil) ?_
   clear Hz Az; intro Az Hz
   refine wp_seq_k (fun K3 hK3 => ?_)
   refine regS Hz (.assign rfl <| .nil) ?_
   clear Hz Az; intro Az Hz
   refine wp_block ?_
   have m26 := m12.freezeN 9 rfl; clear m12
   refine wp_loop_ghost (fun g a w => ∃ (k : Nat) (p6 : Option Addr) (c6 : Nat), k ≤ (secN (recN b.length)) ∧ g = (secN (recN b.length)) - k ∧ Has 39 [(0, .int .u64 gn), (5, .slice p (recV b ++ List.replicate ZZ 0).length c), (6, .slice p6 ((List.range k).map (chunkP gn (recV b))).length c6), (7, .int .i64 (48 * k : Nat))] a ∧ MemOk (cn w0) w0 [(9, .dat (.slice p (recV b ++ List.replicate ZZ 0).length c) (.ns .u8 (recV b ++ List.replicate ZZ 0))), (8, .row (.slice p6 ((List.range k).map (chunkP gn (recV b))).length c6) 24 1 (((List.range k).map (chunkP gn (recV b))).map bD))] w) ((secN (recN b.length))) ?_ ?_
   · have mz := m26.nilR 8 24 1
     exact ⟨0, none, 0, Nat.zero_le _, rfl, Hz.only [0, 5, 6, 7], mz.only [9, 8]⟩
   ·
    clear Hz m26
    rintro g Az w27 ⟨k, p6, c6, hkn0, hg, Hz, m27⟩
    refine wp_seq_k (fun K4 hK4 => ?_)
    refine regS Hz (.move rfl <| .move rfl <| .len rfl Tryd.underlying24 <| .lss rfl rfl <| .nil) ?_
    clear Hz Az; intro Az Hz
    refine bool_cases Hz (t := 21) rfl ?_ ?_
    ·
     clear Hz; intro hb32 Hz
     try simp only [Q1x, Q2x, Q3x, Q4x, Q5x, Q6x, Q7x, Q8x, Q9x, Q0x, Qax, Qbx] at hb32
     have hkn : k < (secN (recN b.length)) := by have := hb32; rw [hRl] at this; omega
     refine wp_cond_true (Hz.ev (x := .tmp 21) rfl) ?_
     refine wp_skip ?_
     refine hK4 _ _ ?_; clear hK4; try clear K4
     refine wp_seq_k (fun K5 hK5 => ?_)
     refine wp_block ?_
     have m33 : MemOk _ _ [(8, _), (9, _)] _ := m27.only [8, 9]; clear m27
     refine region_p 13 (B := [(8, _), (9, _)]) (m33.to ⟨il, il, trivial⟩) m33 (by kernel_rfl) (fun w34 hP34 m34 => ?_); clear m33
     refine goA hP34 [0, 1, 3, 4, 5, 6] 6 0 123 Hz (m34.to ⟨il, il, trivial⟩) (.move rfl <| .move rfl <| .move rfl <| .move rfl <| .move rfl <| .add rfl rfl (r := ((48 * k + 48 : Nat) : Int)) (by rw [IntWalk.i64_in _ (by unfold secN at hkn; omega)]; omega) <| .nil) ?_
     clear Hz Az; intro Az Hz
     have hcap41 := (m34.rd (i := 9) rfl).ns_out.cap
     have m41 := m34.partN (i := 9) rfl (48 * k) (48 * k + 48) (by omega) (by omega) 200 rfl; clear m34
     refine goA hP34 [7, 9] 2 123 763 Hz (m41.to ⟨il, il, trivial⟩) (.p (fun _ _ h => y_sliceLHn h (48 * k) (48 * k + 48) rfl rfl rfl Tryd.underlying24 sz5rrc rfl rfl (by omega) (by omega)) <| .move rfl <| .nil) ?_
     clear Hz Az; intro Az Hz
     refine stepE_only 2 rfl (by kernel_rfl) rfl (fun K hK => ?_)
     refine e_call Hz Tryd.func42 rfl rfl rfl rfl (eight_x gn _) ?_
     rintro e w44 ⟨p44, c44, rfl, ho44, hb44⟩
     have m45 := m41.newN 201 hb44 ho44
     clear m41
     clear hb44 ho44
     refine ⟨_, rfl, ?_⟩; clear Hz Az; intro Az Hz
     refine hK _ _ (m45.to ⟨il, il, trivial⟩) ?_; clear hK K
     refine stepE_only 8 rfl (by kernel_rfl) rfl (fun K hK => ?_)
     refine e_appN Hz m45 201 rfl rfl rfl (m45.nums (i := 200) rfl) Tryd.underlying24 inf5rrc (by decide) (by rw [genB_len, List.length_drop, List.length_take]; omega) rfl ?_
     clear Hz Az m45; intro p47 c47 Az w48 Hz m48
     refine hK _ _ (m48.to ⟨il, il, trivial⟩) ?_; clear hK K
     refine stepE_only 10 rfl (by kernel_rfl) rfl (fun K hK => ?_)
     refine e_call Hz Tryd.func42 rfl rfl rfl rfl (eight_x gn _) ?_
     rintro e w49 ⟨p49, c49, rfl, ho49, hb49⟩
     have m50 := m48.newN 202 hb49 ho49
     clear m48
     clear hb49 ho49
     refine ⟨_, rfl, ?_⟩; clear Hz Az; intro Az Hz
     refine hK _ _ (m50.to ⟨il, il, trivial⟩) ?_; clear hK K
     refine stepE_only 11 rfl (by kernel_rfl) rfl (fun K hK => ?_)
     refine e_appN Hz m50 201 rfl rfl rfl (m50.numsO (i := 202) rfl) Tryd.underlying24 inf5rrc (by decide) (by rw [List.length_append, genB_len, List.length_drop, List.length_take]; omega) rfl ?_
     clear Hz Az m50; intro p52 c52 Az w53 Hz m53
     refine hK _ _ (m53.to ⟨il, il, trivial⟩) ?_; clear hK K
     have m55 := m53.freezeN 201 rfl; clear m53
     refine stepE_only 12 rfl (by kernel_rfl) rfl (fun K hK => ?_)
     refine e_litR Hz m55 203 (mm := 1) rfl (.cons rfl rfl (.cons (m55.rd (i := 201) rfl) .nil) <| .nil) Tryd.underlying22 inf24rrc rfl rfl rfl rfl rfl ?_
     clear Hz Az m55; intro g54 Az w56 Hz m56
     refine hK _ _ (m56.to ⟨il, il, trivial⟩) ?_; clear hK K
     have m58 := m56.freezeR 203 rfl; clear m56
     refine stepE_end 13 rfl (by kernel_rfl) rfl (by rfl) (fun K hK => ?_)
     refine e_appR Hz m58 8 rfl rfl rfl (m58.rd (i := 203) rfl) Tryd.underlying22 inf24rrc rfl rfl (by decide) (by rw [List.length_map, List.length_map, List.length_range]; simp; unfold secN at hkn; omega) rfl ?_
     clear Hz Az m58; intro p57 c57 Az w59 Hz m59
     refine hK _ _ ?_; clear hK K
     refine goB hP34 [14] 1 16383 32767 Hz (.assign rfl <| .nil) ?_
     clear Hz Az; intro Az Hz
     refine wpAnyE_done (by kernel_rfl) ?_ _
     refine hK5 _ _ ?_; clear hK5; try clear K5
     replace Hz : Has 39 [(0, _), (5, _), (6, _), (7, _)] Az := Hz.only [0, 5, 6, 7]
     refine wp_region_lit ?_
     refine goCh Hz (.move rfl <| .add rfl rfl (r := ((48 * (k + 1) : Nat) : Int)) (by rw [IntWalk.i64_in _ (by unfold secN at hkn; omega)]; omega) <| .assign rfl <| .nil) ?_
     clear Hz Az; intro Az Hz
     refine wpList_nil ?_
     show ∃ n', n' < _ ∧ _
     have e9 : ((List.range k).map (chunkP gn (recV b))).map bD ++ [[D.ns .u8 (genB gn ++ ((recV b ++ List.replicate ZZ 0).take (48 * k + 48)).drop (48 * k) ++ genB gn)]] = ((List.range (k + 1)).map (chunkP gn (recV b))).map bD := chs_snoc hkn hZ
     rw [e9, List.length_map] at Hz m59
     exact ⟨(secN (recN b.length)) - (k + 1), by omega, k + 1, _, _, by omega, rfl, Hz.only [0, 5, 6, 7], m59.only [9, 8]⟩
    ·
     clear Hz; intro hb32 Hz
     try simp only [Q1x, Q2x, Q3x, Q4x, Q5x, Q6x, Q7x, Q8x, Q9x, Q0x, Qax, Qbx] at hb32
     obtain rfl : k = (secN (recN b.length)) := by have := hb32; rw [hRl] at this; omega
     refine wp_cond_false (Hz.ev (x := .tmp 21) rfl) ?_
     refine wp_exit ?_
     refine hK3 _ _ ?_; clear hK3; try clear K3
     refine regS Hz (.move rfl <| .assign rfl <| .nil) ?_
     clear Hz Az; intro Az Hz
     refine wp_ret ?_
     try dsimp only [Exit.then, Exit.inBlock]
     refine (ret1 (fn := Tryd.f28) Hz rfl rfl ?_)
     have m67 := m27.freezeR 8 rfl; clear m27
     exact ⟨_, _, rfl, m67.outF (i := 8) rfl, m67.below⟩
end Go.Proofs.YtogjhjiapinmcaaDoor.K
