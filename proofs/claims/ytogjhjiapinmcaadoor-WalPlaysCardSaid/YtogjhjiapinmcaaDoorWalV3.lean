/- The reference's Open. -/
import Derived.Test.YtogjhjiapinmcaaDoorWalV4
namespace Go.Proofs.YtogjhjiapinmcaaDoor.K
open Go.ChangeShapes Go.WideShapes Go.ChangeAt Go.RowKit
set_option linter.unusedVariables false
set_option linter.unusedSimpArgs false

theorem sz5roy : (Tryd.prog.info? 5).map (·.size) = some 1 := by kernel_rfl
theorem sz5ron : (Tryd.prog.info? 5).map (·.size) = some 1 := by kernel_rfl


set_option maxRecDepth 100000
set_option maxHeartbeats 4000000
theorem ropen_yes (X : Cx) (b : List Int) (p : Option Addr) (c : Nat) (w0 : World) (hy : BytesL b) (hl : b.length ≤ 1000000) (h4 : 4 ≤ b.length) (hO : openB b = true) (mm : MemOk X w0 [(1, .dat (.slice p b.length c) (.ns .u8 b))] w0) :
   Calls Tryd.prog 52 #[.slice p b.length c] w0 fun e w' => e = .returned (.tuple #[.slice p (b.length - 4) c, .bool true]) ∧ MemOk X w0 [(1, .dat (.slice p b.length c) (.ns .u8 b)), (3, .dat (.slice p (b.length - 4) c) (.ns .u8 (b.take (b.length - 4))))] w' := by
 have hyt : BytesL (b.take (b.length - 4)) := fun z hz => hy z (List.mem_of_mem_take hz)
 have hyd : BytesL (b.drop (b.length - 4)) := fun z hz => hy z (List.mem_of_mem_drop hz)
 have hlt : (b.take (b.length - 4)).length ≤ 1000000 := by rw [List.length_take]; omega
 have hS : ((strOfNums (fourC (sumC [b.take (b.length - 4)]))).toList == (strOfNums (b.drop (b.length - 4))).toList) = true := by
   rw [str_beq (fourBytes _) hyd]
   have h9 := hO
   unfold openB at h9
   simp only [decide_eq_true_eq] at h9 ⊢
   exact h9.2.symm
 refine enter (fn := Tryd.f52) Tryd.func52 rfl Tryd.ntmps52 rfl (fun Az Hz => ?_)
 simp only [List.zipIdx_cons, List.zipIdx_nil, List.map_cons, List.map_nil, Nat.reduceAdd, Nat.zero_add] at Hz
 have hjl : b.length - 4 ≤ b.length := by omega
 have m0 := (mm.dropN (i := 1) rfl (b.length - 4) hjl 90 rfl).takeN (i := 1) rfl (b.length - 4) hjl 91 rfl
 have hcj : b.length - 4 ≤ c := Nat.le_trans hjl (mm.rd (i := 1) rfl).ns_out.cap.1
 refine regS Hz (.assign rfl <| .assign rfl <| .nil) ?_
 clear Hz Az; intro Az Hz
 refine regS Hz (.move rfl <| .len rfl Tryd.underlying24 <| .sub rfl rfl (r := ((b.length - 4 : Nat) : Int)) (by rw [IntWalk.i64_in _ (by omega)]; omega) <| .assign rfl <| .nil) ?_
 clear Hz Az; intro Az Hz
 refine wp_seq_k (fun K0 hK0 => ?_)
 refine wp_seq_k (fun K1 hK1 => ?_)
 have m7 : MemOk _ _ [(1, _), (90, _), (91, _)] _ := m0.only [1, 90, 91]; clear m0
 refine region_p 13 (B := [(1, _), (90, _), (91, _)]) (m7.to ⟨il, il, il, trivial⟩) m7 (by kernel_rfl) (fun w8 hP8 m8 => ?_); clear m7
 refine goA hP8 [0, 1, 2] 3 0 7 Hz (m8.to ⟨il, il, il, trivial⟩) (.move rfl <| .lss rfl rfl <| .move rfl <| .nil) ?_
 clear Hz Az; intro Az Hz
 refine bool_cases Hz (t := 10) rfl ?_ ?_
 · intro hb _; exact absurd hb (by first | (simp; done) | (simp; omega))
 clear Hz; intro _ Hz
 refine goR hP8 [3, 4, 5, 9, 10, 11, 12] [12] 7 7 7743 Hz (m8.to ⟨il, il, il, trivial⟩) (.move rfl <| .move rfl <| .p (fun _ _ h => y_sliceHn h (b.length - 4) rfl rfl Tryd.underlying24 sz5roy rfl hcj) <| .move rfl <| .move rfl <| .p (fun _ _ h => y_sliceLn h (b.length - 4) rfl rfl Tryd.underlying24 sz5roy rfl hjl) <| .str rfl (fun _ h => (h.nums (i := 90) rfl)) Tryd.underlying24 Tryd.underlying5 Tryd.underlying9 <| .nil) ?_
 clear Hz Az; intro Az Hz
 refine stepE_only 6 rfl (by kernel_rfl) (wantedG Hz rfl rfl rfl rfl) (fun K hK => ?_)
 refine e_call Hz Tryd.func55 rfl rfl rfl rfl (rsum_x (m8.nums (i := 91) rfl) hyt hlt) ?_
 rintro e w20 ⟨rfl, hb20⟩
 have m21 := m8.later hb20
 clear m8
 clear hb20
 refine ⟨_, rfl, ?_⟩; clear Hz Az; intro Az Hz
 refine hK _ _ (m21.to ⟨il, il, il, trivial⟩) ?_; clear hK K
 refine stepE_only 7 rfl (by kernel_rfl) (wantedG Hz rfl rfl rfl rfl) (fun K hK => ?_)
 refine e_call Hz Tryd.func54 rfl rfl rfl rfl (rfour_x _ _ (sumC_range _)) ?_
 rintro e w23 ⟨p23, c23, rfl, ho23, hb23⟩
 have m24 := m21.newN 20 hb23 ho23
 clear m21
 clear hb23 ho23
 refine ⟨_, rfl, ?_⟩; clear Hz Az; intro Az Hz
 refine hK _ _ (m24.to ⟨il, il, il, trivial⟩) ?_; clear hK K
 refine stepE_only 8 rfl (by kernel_rfl) (wantedG Hz rfl rfl rfl rfl) (fun K hK => ?_)
 refine e_y Hz rfl (y_str Hz rfl (m24.numsO (i := 20) rfl) Tryd.underlying24 Tryd.underlying5 Tryd.underlying9) ?_
 clear Hz Az; intro Az Hz
 refine hK _ _ (m24.to ⟨il, il, il, trivial⟩) ?_; clear hK K
 refine stepE_end 13 rfl (by kernel_rfl) (wantedG Hz rfl rfl rfl rfl) (by rfl) (fun K hK => ?_)
 refine e_y Hz rfl (y_neqS Hz rfl rfl) ?_
 clear Hz Az; intro Az Hz
 refine hK _ _ ?_; clear hK K
 refine goB hP8 [14] 1 16383 32767 Hz (.pickF rfl rfl <| .nil) ?_
 clear Hz Az; intro Az Hz
 refine wpAnyE_done (by kernel_rfl) ?_ _
 refine hK1 _ _ ?_; clear hK1; try clear K1
 refine bool_cases Hz (t := 22) rfl ?_ ?_
 · intro hb _; exact absurd hb (by simp [hS])
 clear Hz; intro _ Hz
 refine wp_cond_false (Hz.ev (x := .tmp 22) rfl) ?_
 refine wp_skip ?_
 refine hK0 _ _ ?_; clear hK0; try clear K0
 replace Hz : Has 26 [(0, _), (2, _), (3, _), (4, _)] Az := Hz.only [0, 2, 3, 4]
 refine regS Hz (.move rfl <| .move rfl <| .c rfl (fun _ h => y_sliceHn h (b.length - 4) rfl rfl Tryd.underlying24 sz5roy rfl hcj) <| .assign rfl <| .assign rfl <| .nil) ?_
 clear Hz Az; intro Az Hz
 refine wp_ret ?_
 try dsimp only [Exit.then, Exit.inBlock]
 refine (ret2 (fn := Tryd.f52) Hz rfl rfl rfl ?_)
 exact ⟨rfl, m24.ren [(1, 1), (3, 91)] (by decide)⟩
theorem ropen_no (X : Cx) (b : List Int) (p : Option Addr) (c : Nat) (w0 : World) (hy : BytesL b) (hl : b.length ≤ 1000000) (h4 : 4 ≤ b.length) (hO : openB b = false) (mm : MemOk X w0 [(1, .dat (.slice p b.length c) (.ns .u8 b))] w0) :
   Calls Tryd.prog 52 #[.slice p b.length c] w0 fun e w' => e = .returned (.tuple #[.slice none 0 0, .bool false]) ∧ MemOk X w0 [(1, .dat (.slice p b.length c) (.ns .u8 b))] w' := by
 have hyt : BytesL (b.take (b.length - 4)) := fun z hz => hy z (List.mem_of_mem_take hz)
 have hyd : BytesL (b.drop (b.length - 4)) := fun z hz => hy z (List.mem_of_mem_drop hz)
 have hlt : (b.take (b.length - 4)).length ≤ 1000000 := by rw [List.length_take]; omega
 have hS : ((strOfNums (fourC (sumC [b.take (b.length - 4)]))).toList == (strOfNums (b.drop (b.length - 4))).toList) = false := by
   rw [str_beq (fourBytes _) hyd]
   have h9 := hO
   unfold openB at h9
   simp only [decide_eq_false_iff_not] at h9 ⊢
   exact fun h => h9 ⟨h4, h.symm⟩
 refine enter (fn := Tryd.f52) Tryd.func52 rfl Tryd.ntmps52 rfl (fun Az Hz => ?_)
 simp only [List.zipIdx_cons, List.zipIdx_nil, List.map_cons, List.map_nil, Nat.reduceAdd, Nat.zero_add] at Hz
 have hjl : b.length - 4 ≤ b.length := by omega
 have m0 := (mm.dropN (i := 1) rfl (b.length - 4) hjl 90 rfl).takeN (i := 1) rfl (b.length - 4) hjl 91 rfl
 have hcj : b.length - 4 ≤ c := Nat.le_trans hjl (mm.rd (i := 1) rfl).ns_out.cap.1
 refine regS Hz (.assign rfl <| .assign rfl <| .nil) ?_
 clear Hz Az; intro Az Hz
 refine regS Hz (.move rfl <| .len rfl Tryd.underlying24 <| .sub rfl rfl (r := ((b.length - 4 : Nat) : Int)) (by rw [IntWalk.i64_in _ (by omega)]; omega) <| .assign rfl <| .nil) ?_
 clear Hz Az; intro Az Hz
 refine wp_seq_k (fun K0 hK0 => ?_)
 refine wp_seq_k (fun K1 hK1 => ?_)
 have m7 : MemOk _ _ [(1, _), (90, _), (91, _)] _ := m0.only [1, 90, 91]; clear m0
 refine region_p 13 (B := [(1, _), (90, _), (91, _)]) (m7.to ⟨il, il, il, trivial⟩) m7 (by kernel_rfl) (fun w8 hP8 m8 => ?_); clear m7
 refine goA hP8 [0, 1, 2] 3 0 7 Hz (m8.to ⟨il, il, il, trivial⟩) (.move rfl <| .lss rfl rfl <| .move rfl <| .nil) ?_
 clear Hz Az; intro Az Hz
 refine bool_cases Hz (t := 10) rfl ?_ ?_
 · intro hb _; exact absurd hb (by first | (simp; done) | (simp; omega))
 clear Hz; intro _ Hz
 refine goR hP8 [3, 4, 5, 9, 10, 11, 12] [12] 7 7 7743 Hz (m8.to ⟨il, il, il, trivial⟩) (.move rfl <| .move rfl <| .p (fun _ _ h => y_sliceHn h (b.length - 4) rfl rfl Tryd.underlying24 sz5ron rfl hcj) <| .move rfl <| .move rfl <| .p (fun _ _ h => y_sliceLn h (b.length - 4) rfl rfl Tryd.underlying24 sz5ron rfl hjl) <| .str rfl (fun _ h => (h.nums (i := 90) rfl)) Tryd.underlying24 Tryd.underlying5 Tryd.underlying9 <| .nil) ?_
 clear Hz Az; intro Az Hz
 refine stepE_only 6 rfl (by kernel_rfl) (wantedG Hz rfl rfl rfl rfl) (fun K hK => ?_)
 refine e_call Hz Tryd.func55 rfl rfl rfl rfl (rsum_x (m8.nums (i := 91) rfl) hyt hlt) ?_
 rintro e w20 ⟨rfl, hb20⟩
 have m21 := m8.later hb20
 clear m8
 clear hb20
 refine ⟨_, rfl, ?_⟩; clear Hz Az; intro Az Hz
 refine hK _ _ (m21.to ⟨il, il, il, trivial⟩) ?_; clear hK K
 refine stepE_only 7 rfl (by kernel_rfl) (wantedG Hz rfl rfl rfl rfl) (fun K hK => ?_)
 refine e_call Hz Tryd.func54 rfl rfl rfl rfl (rfour_x _ _ (sumC_range _)) ?_
 rintro e w23 ⟨p23, c23, rfl, ho23, hb23⟩
 have m24 := m21.newN 20 hb23 ho23
 clear m21
 clear hb23 ho23
 refine ⟨_, rfl, ?_⟩; clear Hz Az; intro Az Hz
 refine hK _ _ (m24.to ⟨il, il, il, trivial⟩) ?_; clear hK K
 refine stepE_only 8 rfl (by kernel_rfl) (wantedG Hz rfl rfl rfl rfl) (fun K hK => ?_)
 refine e_y Hz rfl (y_str Hz rfl (m24.numsO (i := 20) rfl) Tryd.underlying24 Tryd.underlying5 Tryd.underlying9) ?_
 clear Hz Az; intro Az Hz
 refine hK _ _ (m24.to ⟨il, il, il, trivial⟩) ?_; clear hK K
 refine stepE_end 13 rfl (by kernel_rfl) (wantedG Hz rfl rfl rfl rfl) (by rfl) (fun K hK => ?_)
 refine e_y Hz rfl (y_neqS Hz rfl rfl) ?_
 clear Hz Az; intro Az Hz
 refine hK _ _ ?_; clear hK K
 refine goB hP8 [14] 1 16383 32767 Hz (.pickF rfl rfl <| .nil) ?_
 clear Hz Az; intro Az Hz
 refine wpAnyE_done (by kernel_rfl) ?_ _
 refine hK1 _ _ ?_; clear hK1; try clear K1
 refine bool_cases Hz (t := 22) rfl ?_ ?_
 rotate_left
 · intro hb _; exact absurd hb (by simp [hS])
 clear Hz; intro _ Hz
 refine wp_cond_true (Hz.ev (x := .tmp 22) rfl) ?_
 replace Hz : Has 26 [(0, _), (2, _), (3, _), (4, _)] Az := Hz.only [0, 2, 3, 4]
 refine regS Hz (.assign rfl <| .assign rfl <| .nil) ?_
 clear Hz Az; intro Az Hz
 refine wp_ret ?_
 try dsimp only [Exit.then, Exit.inBlock]
 refine (ret2 (fn := Tryd.f52) Hz rfl rfl rfl ?_)
 exact ⟨rfl, m24.only [1]⟩
end Go.Proofs.YtogjhjiapinmcaaDoor.K
