/- raft: Recv, of the messages that a raft of the laws hears. -/
import Derived.Test.YtndnnlbdnjndiaaGreatRafH
namespace Go.Proofs.YtndnnlbdnjndiaaGreat.K
open Go.ChangeShapes Go.WideShapes Go.ChangeAt Go.RowKit
set_option linter.unusedVariables false
set_option linter.unusedSimpArgs false

theorem sz46rrPreOk : (Tryz.prog.info? 46).map (·.size) = some 3 := by kernel_rfl
theorem sz55rrPreOk : (Tryz.prog.info? 55).map (·.size) = some 19 := by kernel_rfl
theorem zc46rrPreOk : ((Tryz.prog.info? 46).bind (·.zero)).map (·.cells.toList) = some [.slice none 0 0, .slice none 0 0, .bool false] := by kernel_rfl
theorem sz55roVoteOk : (Tryz.prog.info? 55).map (·.size) = some 19 := by kernel_rfl
theorem sz46rrVoteOk : (Tryz.prog.info? 46).map (·.size) = some 3 := by kernel_rfl
theorem sz55rrVoteOk : (Tryz.prog.info? 55).map (·.size) = some 19 := by kernel_rfl
theorem zc46rrVoteOk : ((Tryz.prog.info? 46).bind (·.zero)).map (·.cells.toList) = some [.slice none 0 0, .slice none 0 0, .bool false] := by kernel_rfl
theorem sz55roAppendOk : (Tryz.prog.info? 55).map (·.size) = some 19 := by kernel_rfl
theorem sz46rrAppendOk : (Tryz.prog.info? 46).map (·.size) = some 3 := by kernel_rfl
theorem sz55rrAppendOk : (Tryz.prog.info? 55).map (·.size) = some 19 := by kernel_rfl
theorem zc46rrAppendOk : ((Tryz.prog.info? 46).bind (·.zero)).map (·.cells.toList) = some [.slice none 0 0, .slice none 0 0, .bool false] := by kernel_rfl
theorem ROk.down {s : RS} (h : ROk s) (te : Int) (hr : s.rs.length ≤ 700000) (ht : 0 ≤ te ∧ te ≤ 1000000000000000) : ROk (hardS (withX s { s.x with ro := 0, le := -1, te := te, vo := -1 })) := ⟨h.l, h.n, h.co, h.ld, h.ms, by show (s.rs ++ [_]).length ≤ 800000; rw [List.length_append]; simp; omega, ht, h.id, h.si, h.be, h.ys⟩
set_option maxRecDepth 100000
set_option maxHeartbeats 4000000
theorem rRecvPreOk_s (X : Cx) (R : Nat) (s : RS) (p : RP) (gm f t te ix lt co : Int) (w0 : World) (hk : ROk s) (hg : gm = s.x.gr) (ht : t = s.x.id) (hf : f ≠ s.x.id) (m0 : MemOk X w0 (rfM R s p) w0) :
   Calls Tryz.prog 23 #[.pointer (some ⟨R, 0, none⟩), .agg #[.int .i64 2, .int .i64 gm, .int .i64 f, .int .i64 t, .int .i64 te, .int .i64 ix, .int .i64 lt, .int .i64 co, .bool true, .slice none 0 0, .int .i64 0, .int .i64 0, .slice none 0 0, .slice none 0 0, .slice none 0 0, .int .i64 0, .int .i64 0, .int .i64 0, .int .i64 0]] w0 fun e w' => ∃ p' o', e = .returned (.agg #[.slice o'.pm ((preOkS s f te).ms.map rmD).length o'.cm, .slice o'.pq ((preOkS s f te).rs.map rrD).length o'.cq, .bool (preOkS s f te).re]) ∧ MemOk X w0 (ouM (preOkS s f te) o' (rfM R (clrS (preOkS s f te)) (nilP p'))) w' := by
 refine enter (fn := Tryz.f23) Tryz.func23 rfl Tryz.ntmps23 rfl (fun Az Hz => ?_)
 simp only [List.zipIdx_cons, List.zipIdx_nil, List.map_cons, List.map_nil, Nat.reduceAdd, Nat.zero_add] at Hz
 refine wp_seq_k (fun K0 hK0 => ?_)
 refine wp_region_lit ?_
 refine wpList_plain rfl (fun K hK => ?_)
 refine e_box Hz m0 70 (cs := [_, _, _, _, _, _, _, _, _, _, _, _, _, _, _, _, _, _, _]) rfl rfl rfl ?_
 clear Hz Az m0; intro g1 Az w2 Hz m2 hB2 hg2
 clear hB2 hg2
 refine hK _ _ ?_; clear hK K
 refine wpList_plain rfl (fun K hK => ?_)
 refine e_alloc Hz m2 71 zc46rrPreOk rfl ?_
 clear Hz Az m2; intro g3 Az w4 Hz m4 hB4 hg4
 clear hB4 hg4
 refine hK _ _ ?_; clear hK K
 refine wpList_nil ?_
 refine hK0 _ _ ?_; clear hK0; try clear K0
 refine wp_seq_k (fun K1 hK1 => ?_)
 refine wp_seq_k (fun K2 hK2 => ?_)
 have m5 : MemOk _ _ [(1, _), (2, _), (3, _), (4, _), (5, _), (6, _), (7, _), (8, _), (70, _), (71, _)] _ := m4.only [1, 2, 3, 4, 5, 6, 7, 8, 70, 71]; clear m4
 refine region_p 28 (B := [(1, _), (2, _), (3, _), (4, _), (5, _), (6, _), (7, _), (8, _), (70, _), (71, _)]) (m5.to ⟨il, il, il, il, il, il, il, il, il, il, trivial⟩) m5 (by kernel_rfl) (fun w6 hP6 m6 => ?_); clear m5
 refine goR hP6 [0, 1, 2, 3, 4, 5, 6, 7, 8] [1, 6] 9 0 511 Hz (m6.to ⟨il, il, il, il, il, il, il, il, il, il, trivial⟩) (.fieldAddr (off := 1) rfl Tryz.underlying55 rfl (s := 0) (by kernel_rfl) rfl <| .loadB1 hh (i := 70) rfl rfl rfl Tryz.underlying3 rfl <| .move rfl <| .nilCheck rfl <| .fieldAddr (off := 0) rfl Tryz.underlying86 rfl (s := 4) (by kernel_rfl) rfl <| .fieldAddr (off := 1) rfl Tryz.underlying81 rfl (s := 0) (by kernel_rfl) rfl <| .loadB1 hh (i := 1) rfl rfl rfl Tryz.underlying3 rfl <| .neq rfl rfl <| .move rfl <| .nil) ?_
 clear Hz Az; intro Az Hz
 refine bool_cases Hz (t := 14) rfl ?_ ?_
 · intro hb _; exact absurd hb (by simp; omega)
 clear Hz; intro _ Hz
 refine goR hP6 [9, 10, 11, 12, 13, 14, 15, 16, 17, 18] [10, 15] 10 511 524287 Hz (m6.to ⟨il, il, il, il, il, il, il, il, il, il, trivial⟩) (.fieldAddr (off := 3) rfl Tryz.underlying55 rfl (s := 0) (by kernel_rfl) rfl <| .loadB1 hh (i := 70) rfl rfl rfl Tryz.underlying3 rfl <| .move rfl <| .nilCheck rfl <| .fieldAddr (off := 0) rfl Tryz.underlying86 rfl (s := 4) (by kernel_rfl) rfl <| .fieldAddr (off := 0) rfl Tryz.underlying81 rfl (s := 0) (by kernel_rfl) rfl <| .loadB1 hh (i := 1) rfl rfl rfl Tryz.underlying3 rfl <| .neq rfl rfl <| .pickF rfl rfl <| .move rfl <| .nil) ?_
 clear Hz Az; intro Az Hz
 refine bool_cases Hz (t := 24) rfl ?_ ?_
 · intro hb _; exact absurd hb (by simp; omega)
 clear Hz; intro _ Hz
 refine goR hP6 [19, 20, 21, 22, 23, 24, 25, 26, 27] [20, 25] 9 524287 268435455 Hz (m6.to ⟨il, il, il, il, il, il, il, il, il, il, trivial⟩) (.fieldAddr (off := 2) rfl Tryz.underlying55 rfl (s := 0) (by kernel_rfl) rfl <| .loadB1 hh (i := 70) rfl rfl rfl Tryz.underlying3 rfl <| .move rfl <| .nilCheck rfl <| .fieldAddr (off := 0) rfl Tryz.underlying86 rfl (s := 4) (by kernel_rfl) rfl <| .fieldAddr (off := 0) rfl Tryz.underlying81 rfl (s := 0) (by kernel_rfl) rfl <| .loadB1 hh (i := 1) rfl rfl rfl Tryz.underlying3 rfl <| .eql rfl rfl <| .pickF rfl rfl <| .nil) ?_
 clear Hz Az; intro Az Hz
 refine wpAnyE_done (by kernel_rfl) ?_ _
 refine hK2 _ _ ?_; clear hK2; try clear K2
 refine bool_cases Hz (t := 33) rfl ?_ ?_
 · intro hb _; exact absurd hb (by simp; omega)
 clear Hz; intro _ Hz
 refine wp_cond_false (Hz.ev (x := .tmp 33) rfl) ?_
 refine wp_skip ?_
 refine hK1 _ _ ?_; clear hK1; try clear K1
 refine wp_seq_k (fun K3 hK3 => ?_)
 replace Hz : Has 46 [(0, _), (3, _), (4, _)] Az := Hz.only [0, 3, 4]
 refine wp_seq_k (fun K4 hK4 => ?_)
 refine wp_region_lit ?_
 refine goCh Hz (.move rfl <| .fieldAddr (off := 0) rfl Tryz.underlying55 rfl (s := 0) (by kernel_rfl) rfl <| .loadB1 m6 (i := 70) rfl rfl rfl Tryz.underlying3 rfl <| .nil) ?_
 clear Hz Az; intro Az Hz
 refine wpList_plain rfl (fun K hK => ?_)
 refine e_call Hz Tryz.func60 rfl rfl rfl rfl (rhandler2_s _ R _ (m6.into [] (by decide) rfl)) ?_
 rintro e w45 ⟨rfl, hm45⟩
 have mx45 := m6.back hm45 [] (by decide); clear hm45 m6
 have m45 : MemOk _ _ [(1, _), (2, _), (3, _), (4, _), (5, _), (6, _), (7, _), (8, _), (70, _), (71, _)] _ := mx45.only [1, 2, 3, 4, 5, 6, 7, 8, 70, 71]; clear mx45
 refine ⟨_, rfl, ?_⟩; clear Hz Az; intro Az Hz
 refine hK _ _ ?_; clear hK K
 refine goCh Hz (.assign rfl .nil) ?_
 clear Hz Az; intro Az Hz
 refine wpList_nil ?_
 refine hK4 _ _ ?_; clear hK4; try clear K4
 refine regS Hz (.move rfl <| .c rfl (fun _ h_ => y_neqF h_ rfl rfl Tryz.underlying106) <| .nil) ?_
 clear Hz Az; intro Az Hz
 refine wp_cond_true (Hz.ev (x := .tmp 40) rfl) ?_
 replace Hz : Has 46 [(0, _), (3, _), (4, _), (5, _)] Az := Hz.only [0, 3, 4, 5]
 refine wp_region_lit ?_
 refine goCh Hz (.move rfl <| .loadBR m45 (i := 70) rfl rfl Tryz.underlying55 rfl sz55rrPreOk (by simp) (by dsimp only [List.drop, List.take] <;> rfl) <| .nil) ?_
 clear Hz Az; intro Az Hz
 refine wpList_plain rfl (fun K hK => ?_)
 refine e_callG Hz rfl Tryz.func97 rfl rfl rfl rfl (ronPreOk_s _ R s p 2 gm f t te ix lt co _ hk (m45.into [(1, 1), (2, 2), (3, 3), (4, 4), (5, 5), (6, 6), (7, 7), (8, 8)] (by decide) rfl)) ?_
 rintro e w53 ⟨p2, rfl, hm53⟩
 have mx53 := m45.back hm53 [(1, 1), (2, 2), (3, 3), (4, 4), (5, 5), (6, 6), (7, 7), (8, 8)] (by decide); clear hm53 m45
 have m53 : MemOk _ _ [(1, _), (2, _), (3, _), (4, _), (5, _), (6, _), (7, _), (8, _), (70, _), (71, _)] _ := mx53.only [1, 2, 3, 4, 5, 6, 7, 8, 70, 71]; clear mx53
 refine ⟨_, rfl, ?_⟩; clear Hz Az; intro Az Hz
 refine hK _ _ ?_; clear hK K
 refine wpList_nil ?_
 refine hK3 _ _ ?_; clear hK3; try clear K3
 refine wp_seq_k (fun K5 hK5 => ?_)
 refine wp_region_lit ?_
 refine goCh Hz (.move rfl .nil) ?_
 clear Hz Az; intro Az Hz
 refine wpList_plain rfl (fun K hK => ?_)
 refine e_call Hz Tryz.func47 rfl rfl rfl rfl (rtaken_s _ R (preOkS s f te) p2 _ (m53.into [(1, 1), (2, 2), (3, 3), (4, 4), (5, 5), (6, 6), (7, 7), (8, 8)] (by decide) rfl)) ?_
 rintro e w57 ⟨p9, o9, rfl, hm57⟩
 have mx57 := m53.back hm57 [(1, 1), (2, 2), (3, 3), (4, 4), (5, 5), (6, 6), (7, 7), (8, 8), (11, 11), (12, 12)] (by decide); clear hm57 m53
 have m57 : MemOk _ _ [(1, _), (2, _), (3, _), (4, _), (5, _), (6, _), (7, _), (8, _), (11, _), (12, _), (70, _), (71, _)] _ := mx57.only [1, 2, 3, 4, 5, 6, 7, 8, 11, 12, 70, 71]; clear mx57
 refine ⟨_, rfl, ?_⟩; clear Hz Az; intro Az Hz
 refine hK _ _ ?_; clear hK K
 refine wpList_plain rfl (fun K hK => ?_)
 refine e_storeW Hz m57 71 rfl rfl rfl rfl rfl sz46rrPreOk ?_
 clear m57; intro w59 m59 hB59
 clear hB59
 refine hK _ _ ?_; clear hK K
 refine wpList_nil ?_
 refine hK5 _ _ ?_; clear hK5; try clear K5
 refine wp_ret ?_
 try dsimp only [Exit.then, Exit.inBlock]
 refine (retC (fn := Tryz.f23) Hz m59 (i := 71) rfl rfl rfl Tryz.underlying46 rfl sz46rrPreOk ?_)
 exact ⟨p9, o9, rfl, m59.only [11, 12, 1, 2, 3, 4, 5, 6, 7, 8]⟩
theorem rofVoteOk_s (X : Cx) (R : Nat) (s : RS) (p : RP) (gm f t te ix lt co : Int) (ok : Bool) (B1 B2 B3 : Nat) (w0 : World) (hk : ROk s) (hte : te = s.x.te) (m0 : MemOk X w0 ((61, .box B1 33 [.pointer (some ⟨R, 0, none⟩)]) :: (62, .box B2 106 [(.func (.func 100) #[.pointer (some ⟨R, 0, none⟩)] #[])]) :: (63, .box B3 3 [.int .i64 0]) :: rfM R s p) w0) :
   Calls Tryz.prog 142 #[.agg #[.int .i64 4, .int .i64 gm, .int .i64 f, .int .i64 t, .int .i64 te, .int .i64 ix, .int .i64 lt, .int .i64 co, .bool ok, .slice none 0 0, .int .i64 0, .int .i64 0, .slice none 0 0, .slice none 0 0, .slice none 0 0, .int .i64 0, .int .i64 0, .int .i64 0, .int .i64 0], .pointer (some ⟨B1, 0, none⟩), .pointer (some ⟨B2, 0, none⟩), .pointer (some ⟨B3, 0, none⟩)] w0 fun e w' => ∃ p', e = .returned (.tuple #[]) ∧ MemOk X w0 (rfM R (voteOkS s f ok) p') w' := by
 refine enter (fn := Tryz.f142) Tryz.func142 rfl Tryz.ntmps142 rfl (fun Az Hz => ?_)
 simp only [List.zipIdx_cons, List.zipIdx_nil, List.map_cons, List.map_nil, Nat.reduceAdd, Nat.zero_add] at Hz
 refine wp_seq_k (fun K0 hK0 => ?_)
 refine wp_region_lit ?_
 refine wpList_plain rfl (fun K hK => ?_)
 refine e_box Hz m0 70 (cs := [_, _, _, _, _, _, _, _, _, _, _, _, _, _, _, _, _, _, _]) rfl rfl rfl ?_
 clear Hz Az m0; intro g1 Az w2 Hz m2 hB2 hg2
 clear hB2 hg2
 refine hK _ _ ?_; clear hK K
 refine wpList_nil ?_
 refine hK0 _ _ ?_; clear hK0; try clear K0
 refine wp_seq_k (fun K1 hK1 => ?_)
 refine wp_seq_k (fun K2 hK2 => ?_)
 have m3 : MemOk _ _ [(1, _), (2, _), (3, _), (4, _), (5, _), (6, _), (7, _), (8, _), (61, _), (62, _), (63, _), (70, _)] _ := m2.only [1, 2, 3, 4, 5, 6, 7, 8, 61, 62, 63, 70]; clear m2
 refine region_p 9 (B := [(1, _), (2, _), (3, _), (4, _), (5, _), (6, _), (7, _), (8, _), (61, _), (62, _), (63, _), (70, _)]) (m3.to ⟨il, il, il, il, il, il, il, il, il, il, il, il, trivial⟩) m3 (by kernel_rfl) (fun w4 hP4 m4 => ?_); clear m3
 refine goR hP4 [0, 1, 2, 3, 4, 5, 6, 7, 8] [1, 2, 7] 9 0 511 Hz (m4.to ⟨il, il, il, il, il, il, il, il, il, il, il, il, trivial⟩) (.fieldAddr (off := 4) rfl Tryz.underlying55 rfl (s := 0) (by kernel_rfl) rfl <| .loadB1 hh (i := 70) rfl rfl rfl Tryz.underlying3 rfl <| .loadB1 hh (i := 61) rfl rfl rfl Tryz.underlying33 rfl <| .nilCheck rfl <| .fieldAddr (off := 0) rfl Tryz.underlying86 rfl (s := 4) (by kernel_rfl) rfl <| .fieldAddr (off := 2) rfl Tryz.underlying81 rfl (s := 1) (by kernel_rfl) rfl <| .fieldAddr (off := 2) rfl Tryz.underlying25 rfl (s := 0) (by kernel_rfl) rfl <| .loadB1 hh (i := 1) rfl rfl rfl Tryz.underlying3 rfl <| .gtr rfl rfl <| .nil) ?_
 clear Hz Az; intro Az Hz
 refine wpAnyE_done (by kernel_rfl) ?_ _
 refine hK2 _ _ ?_; clear hK2; try clear K2
 refine bool_cases Hz (t := 13) rfl ?_ ?_
 · intro hb _; exact absurd hb (by simp; omega)
 clear Hz; intro _ Hz
 refine wp_cond_false (Hz.ev (x := .tmp 13) rfl) ?_
 refine wp_skip ?_
 refine hK1 _ _ ?_; clear hK1; try clear K1
 refine wp_seq_k (fun K3 hK3 => ?_)
 replace Hz : Has 36 [(1, _), (2, _), (3, _), (4, _)] Az := Hz.only [1, 2, 3, 4]
 have m16 : MemOk _ _ [(1, _), (2, _), (3, _), (4, _), (5, _), (6, _), (7, _), (8, _), (61, _), (62, _), (63, _), (70, _)] _ := m4.only [1, 2, 3, 4, 5, 6, 7, 8, 61, 62, 63, 70]; clear m4
 refine region_p 9 (B := [(1, _), (2, _), (3, _), (4, _), (5, _), (6, _), (7, _), (8, _), (61, _), (62, _), (63, _), (70, _)]) (m16.to ⟨il, il, il, il, il, il, il, il, il, il, il, il, trivial⟩) m16 (by kernel_rfl) (fun w17 hP17 m17 => ?_); clear m16
 refine goR hP17 [0, 1, 2, 3, 4, 5, 6, 7, 8] [1, 2, 7] 9 0 511 Hz (m17.to ⟨il, il, il, il, il, il, il, il, il, il, il, il, trivial⟩) (.fieldAddr (off := 4) rfl Tryz.underlying55 rfl (s := 0) (by kernel_rfl) rfl <| .loadB1 hh (i := 70) rfl rfl rfl Tryz.underlying3 rfl <| .loadB1 hh (i := 61) rfl rfl rfl Tryz.underlying33 rfl <| .nilCheck rfl <| .fieldAddr (off := 0) rfl Tryz.underlying86 rfl (s := 4) (by kernel_rfl) rfl <| .fieldAddr (off := 2) rfl Tryz.underlying81 rfl (s := 1) (by kernel_rfl) rfl <| .fieldAddr (off := 2) rfl Tryz.underlying25 rfl (s := 0) (by kernel_rfl) rfl <| .loadB1 hh (i := 1) rfl rfl rfl Tryz.underlying3 rfl <| .eql rfl rfl <| .nil) ?_
 clear Hz Az; intro Az Hz
 refine wpAnyE_done (by kernel_rfl) ?_ _
 refine hK3 _ _ ?_; clear hK3; try clear K3
 refine bool_cases Hz (t := 26) rfl ?_ ?_
 rotate_left
 · intro hb _; exact absurd hb (by simp; omega)
 clear Hz; intro _ Hz
 refine wp_cond_true (Hz.ev (x := .tmp 26) rfl) ?_
 replace Hz : Has 36 [(1, _), (2, _), (3, _), (4, _)] Az := Hz.only [1, 2, 3, 4]
 refine wp_region_lit ?_
 refine goCh Hz (.loadB1 m17 (i := 62) rfl rfl rfl Tryz.underlying106 rfl <| .loadBR m17 (i := 70) rfl rfl Tryz.underlying55 rfl sz55roVoteOk (by simp) (by dsimp only [List.drop, List.take] <;> rfl) <| .nil) ?_
 clear Hz Az; intro Az Hz
 refine wpList_plain rfl (fun K hK => ?_)
 refine e_callG Hz rfl Tryz.func100 rfl rfl rfl rfl (ronVoteOk_s _ R s p 4 gm f t te ix lt co ok _ hk (m17.into [(1, 1), (2, 2), (3, 3), (4, 4), (5, 5), (6, 6), (7, 7), (8, 8)] (by decide) rfl)) ?_
 rintro e w31 ⟨p2, rfl, hm31⟩
 have mx31 := m17.back hm31 [(1, 1), (2, 2), (3, 3), (4, 4), (5, 5), (6, 6), (7, 7), (8, 8)] (by decide); clear hm31 m17
 have m31 : MemOk _ _ [(1, _), (2, _), (3, _), (4, _), (5, _), (6, _), (7, _), (8, _), (61, _), (62, _), (63, _), (70, _)] _ := mx31.only [1, 2, 3, 4, 5, 6, 7, 8, 61, 62, 63, 70]; clear mx31
 refine ⟨_, rfl, ?_⟩; clear Hz Az; intro Az Hz
 refine hK _ _ ?_; clear hK K
 refine wpList_nil ?_
 try dsimp only [Exit.then]
 try refine out_here ?_
 refine (ret0 (fn := Tryz.f142) Hz rfl ?_)
 exact ⟨p2, rfl, m31.only [1, 2, 3, 4, 5, 6, 7, 8]⟩
theorem rRecvVoteOk_s (X : Cx) (R : Nat) (s : RS) (p : RP) (gm f t te ix lt co : Int) (ok : Bool) (w0 : World) (hk : ROk s) (hg : gm = s.x.gr) (ht : t = s.x.id) (hf : f ≠ s.x.id) (hte : te = s.x.te) (m0 : MemOk X w0 (rfM R s p) w0) :
   Calls Tryz.prog 23 #[.pointer (some ⟨R, 0, none⟩), .agg #[.int .i64 4, .int .i64 gm, .int .i64 f, .int .i64 t, .int .i64 te, .int .i64 ix, .int .i64 lt, .int .i64 co, .bool ok, .slice none 0 0, .int .i64 0, .int .i64 0, .slice none 0 0, .slice none 0 0, .slice none 0 0, .int .i64 0, .int .i64 0, .int .i64 0, .int .i64 0]] w0 fun e w' => ∃ p' o', e = .returned (.agg #[.slice o'.pm ((voteOkS s f ok).ms.map rmD).length o'.cm, .slice o'.pq ((voteOkS s f ok).rs.map rrD).length o'.cq, .bool (voteOkS s f ok).re]) ∧ MemOk X w0 (ouM (voteOkS s f ok) o' (rfM R (clrS (voteOkS s f ok)) (nilP p'))) w' := by
 refine enter (fn := Tryz.f23) Tryz.func23 rfl Tryz.ntmps23 rfl (fun Az Hz => ?_)
 simp only [List.zipIdx_cons, List.zipIdx_nil, List.map_cons, List.map_nil, Nat.reduceAdd, Nat.zero_add] at Hz
 refine wp_seq_k (fun K0 hK0 => ?_)
 refine wp_region_lit ?_
 refine wpList_plain rfl (fun K hK => ?_)
 refine e_box Hz m0 70 (cs := [_, _, _, _, _, _, _, _, _, _, _, _, _, _, _, _, _, _, _]) rfl rfl rfl ?_
 clear Hz Az m0; intro g1 Az w2 Hz m2 hB2 hg2
 clear hB2 hg2
 refine hK _ _ ?_; clear hK K
 refine wpList_plain rfl (fun K hK => ?_)
 refine e_alloc Hz m2 71 zc46rrVoteOk rfl ?_
 clear Hz Az m2; intro g3 Az w4 Hz m4 hB4 hg4
 clear hB4 hg4
 refine hK _ _ ?_; clear hK K
 refine wpList_nil ?_
 refine hK0 _ _ ?_; clear hK0; try clear K0
 refine wp_seq_k (fun K1 hK1 => ?_)
 refine wp_seq_k (fun K2 hK2 => ?_)
 have m5 : MemOk _ _ [(1, _), (2, _), (3, _), (4, _), (5, _), (6, _), (7, _), (8, _), (70, _), (71, _)] _ := m4.only [1, 2, 3, 4, 5, 6, 7, 8, 70, 71]; clear m4
 refine region_p 28 (B := [(1, _), (2, _), (3, _), (4, _), (5, _), (6, _), (7, _), (8, _), (70, _), (71, _)]) (m5.to ⟨il, il, il, il, il, il, il, il, il, il, trivial⟩) m5 (by kernel_rfl) (fun w6 hP6 m6 => ?_); clear m5
 refine goR hP6 [0, 1, 2, 3, 4, 5, 6, 7, 8] [1, 6] 9 0 511 Hz (m6.to ⟨il, il, il, il, il, il, il, il, il, il, trivial⟩) (.fieldAddr (off := 1) rfl Tryz.underlying55 rfl (s := 0) (by kernel_rfl) rfl <| .loadB1 hh (i := 70) rfl rfl rfl Tryz.underlying3 rfl <| .move rfl <| .nilCheck rfl <| .fieldAddr (off := 0) rfl Tryz.underlying86 rfl (s := 4) (by kernel_rfl) rfl <| .fieldAddr (off := 1) rfl Tryz.underlying81 rfl (s := 0) (by kernel_rfl) rfl <| .loadB1 hh (i := 1) rfl rfl rfl Tryz.underlying3 rfl <| .neq rfl rfl <| .move rfl <| .nil) ?_
 clear Hz Az; intro Az Hz
 refine bool_cases Hz (t := 14) rfl ?_ ?_
 · intro hb _; exact absurd hb (by simp; omega)
 clear Hz; intro _ Hz
 refine goR hP6 [9, 10, 11, 12, 13, 14, 15, 16, 17, 18] [10, 15] 10 511 524287 Hz (m6.to ⟨il, il, il, il, il, il, il, il, il, il, trivial⟩) (.fieldAddr (off := 3) rfl Tryz.underlying55 rfl (s := 0) (by kernel_rfl) rfl <| .loadB1 hh (i := 70) rfl rfl rfl Tryz.underlying3 rfl <| .move rfl <| .nilCheck rfl <| .fieldAddr (off := 0) rfl Tryz.underlying86 rfl (s := 4) (by kernel_rfl) rfl <| .fieldAddr (off := 0) rfl Tryz.underlying81 rfl (s := 0) (by kernel_rfl) rfl <| .loadB1 hh (i := 1) rfl rfl rfl Tryz.underlying3 rfl <| .neq rfl rfl <| .pickF rfl rfl <| .move rfl <| .nil) ?_
 clear Hz Az; intro Az Hz
 refine bool_cases Hz (t := 24) rfl ?_ ?_
 · intro hb _; exact absurd hb (by simp; omega)
 clear Hz; intro _ Hz
 refine goR hP6 [19, 20, 21, 22, 23, 24, 25, 26, 27] [20, 25] 9 524287 268435455 Hz (m6.to ⟨il, il, il, il, il, il, il, il, il, il, trivial⟩) (.fieldAddr (off := 2) rfl Tryz.underlying55 rfl (s := 0) (by kernel_rfl) rfl <| .loadB1 hh (i := 70) rfl rfl rfl Tryz.underlying3 rfl <| .move rfl <| .nilCheck rfl <| .fieldAddr (off := 0) rfl Tryz.underlying86 rfl (s := 4) (by kernel_rfl) rfl <| .fieldAddr (off := 0) rfl Tryz.underlying81 rfl (s := 0) (by kernel_rfl) rfl <| .loadB1 hh (i := 1) rfl rfl rfl Tryz.underlying3 rfl <| .eql rfl rfl <| .pickF rfl rfl <| .nil) ?_
 clear Hz Az; intro Az Hz
 refine wpAnyE_done (by kernel_rfl) ?_ _
 refine hK2 _ _ ?_; clear hK2; try clear K2
 refine bool_cases Hz (t := 33) rfl ?_ ?_
 · intro hb _; exact absurd hb (by simp; omega)
 clear Hz; intro _ Hz
 refine wp_cond_false (Hz.ev (x := .tmp 33) rfl) ?_
 refine wp_skip ?_
 refine hK1 _ _ ?_; clear hK1; try clear K1
 refine wp_seq_k (fun K3 hK3 => ?_)
 replace Hz : Has 46 [(0, _), (3, _), (4, _)] Az := Hz.only [0, 3, 4]
 refine wp_seq_k (fun K4 hK4 => ?_)
 refine wp_region_lit ?_
 refine goCh Hz (.move rfl <| .fieldAddr (off := 0) rfl Tryz.underlying55 rfl (s := 0) (by kernel_rfl) rfl <| .loadB1 m6 (i := 70) rfl rfl rfl Tryz.underlying3 rfl <| .nil) ?_
 clear Hz Az; intro Az Hz
 refine wpList_plain rfl (fun K hK => ?_)
 refine e_call Hz Tryz.func60 rfl rfl rfl rfl (rhandler4_s _ R _ (m6.into [] (by decide) rfl)) ?_
 rintro e w45 ⟨B1, B2, B3, rfl, hm45⟩
 have mx45 := m6.back hm45 [(61, 61), (62, 62), (63, 63)] (by decide); clear hm45 m6
 have m45 : MemOk _ _ [(61, _), (62, _), (63, _), (1, _), (2, _), (3, _), (4, _), (5, _), (6, _), (7, _), (8, _), (70, _), (71, _)] _ := mx45.only [61, 62, 63, 1, 2, 3, 4, 5, 6, 7, 8, 70, 71]; clear mx45
 refine ⟨_, rfl, ?_⟩; clear Hz Az; intro Az Hz
 refine hK _ _ ?_; clear hK K
 refine goCh Hz (.assign rfl .nil) ?_
 clear Hz Az; intro Az Hz
 refine wpList_nil ?_
 refine hK4 _ _ ?_; clear hK4; try clear K4
 refine regS Hz (.move rfl <| .c rfl (fun _ h_ => y_neqF h_ rfl rfl Tryz.underlying106) <| .nil) ?_
 clear Hz Az; intro Az Hz
 refine wp_cond_true (Hz.ev (x := .tmp 40) rfl) ?_
 replace Hz : Has 46 [(0, _), (3, _), (4, _), (5, _)] Az := Hz.only [0, 3, 4, 5]
 refine wp_region_lit ?_
 refine goCh Hz (.move rfl <| .loadBR m45 (i := 70) rfl rfl Tryz.underlying55 rfl sz55rrVoteOk (by simp) (by dsimp only [List.drop, List.take] <;> rfl) <| .nil) ?_
 clear Hz Az; intro Az Hz
 refine wpList_plain rfl (fun K hK => ?_)
 refine e_callC Hz rfl Tryz.func142 rfl rfl rfl rfl (rofVoteOk_s _ R s p gm f t te ix lt co ok B1 B2 B3 _ hk hte (m45.into [(61, 61), (62, 62), (63, 63), (1, 1), (2, 2), (3, 3), (4, 4), (5, 5), (6, 6), (7, 7), (8, 8)] (by decide) rfl)) ?_
 rintro e w53 ⟨p2, rfl, hm53⟩
 have mx53 := m45.back hm53 [(1, 1), (2, 2), (3, 3), (4, 4), (5, 5), (6, 6), (7, 7), (8, 8)] (by decide); clear hm53 m45
 have m53 : MemOk _ _ [(1, _), (2, _), (3, _), (4, _), (5, _), (6, _), (7, _), (8, _), (70, _), (71, _)] _ := mx53.only [1, 2, 3, 4, 5, 6, 7, 8, 70, 71]; clear mx53
 refine ⟨_, rfl, ?_⟩; clear Hz Az; intro Az Hz
 refine hK _ _ ?_; clear hK K
 refine wpList_nil ?_
 refine hK3 _ _ ?_; clear hK3; try clear K3
 refine wp_seq_k (fun K5 hK5 => ?_)
 refine wp_region_lit ?_
 refine goCh Hz (.move rfl .nil) ?_
 clear Hz Az; intro Az Hz
 refine wpList_plain rfl (fun K hK => ?_)
 refine e_call Hz Tryz.func47 rfl rfl rfl rfl (rtaken_s _ R (voteOkS s f ok) p2 _ (m53.into [(1, 1), (2, 2), (3, 3), (4, 4), (5, 5), (6, 6), (7, 7), (8, 8)] (by decide) rfl)) ?_
 rintro e w57 ⟨p9, o9, rfl, hm57⟩
 have mx57 := m53.back hm57 [(1, 1), (2, 2), (3, 3), (4, 4), (5, 5), (6, 6), (7, 7), (8, 8), (11, 11), (12, 12)] (by decide); clear hm57 m53
 have m57 : MemOk _ _ [(1, _), (2, _), (3, _), (4, _), (5, _), (6, _), (7, _), (8, _), (11, _), (12, _), (70, _), (71, _)] _ := mx57.only [1, 2, 3, 4, 5, 6, 7, 8, 11, 12, 70, 71]; clear mx57
 refine ⟨_, rfl, ?_⟩; clear Hz Az; intro Az Hz
 refine hK _ _ ?_; clear hK K
 refine wpList_plain rfl (fun K hK => ?_)
 refine e_storeW Hz m57 71 rfl rfl rfl rfl rfl sz46rrVoteOk ?_
 clear m57; intro w59 m59 hB59
 clear hB59
 refine hK _ _ ?_; clear hK K
 refine wpList_nil ?_
 refine hK5 _ _ ?_; clear hK5; try clear K5
 refine wp_ret ?_
 try dsimp only [Exit.then, Exit.inBlock]
 refine (retC (fn := Tryz.f23) Hz m59 (i := 71) rfl rfl rfl Tryz.underlying46 rfl sz46rrVoteOk ?_)
 exact ⟨p9, o9, rfl, m59.only [11, 12, 1, 2, 3, 4, 5, 6, 7, 8]⟩
theorem rofAppendOk_s (X : Cx) (R : Nat) (s : RS) (p : RP) (gm f t te ix lt co : Int) (B1 B2 B3 : Nat) (w0 : World) (hk : ROk s) (hte : te = s.x.te) (hro : s.x.ro = 3) (hoth : (othS s).contains f = true) (hf0 : 0 ≤ f ∧ f ≤ 6) (hix : -1000000000000000 ≤ ix ∧ ix ≤ 1000000000000000) (hmx : s.bi ≤ mx s.x f ∧ mx s.x f ≤ 1000000000000000) (m0 : MemOk X w0 ((61, .box B1 33 [.pointer (some ⟨R, 0, none⟩)]) :: (62, .box B2 106 [(.func (.func 102) #[.pointer (some ⟨R, 0, none⟩)] #[])]) :: (63, .box B3 3 [.int .i64 0]) :: rfM R s p) w0) :
   Calls Tryz.prog 142 #[.agg #[.int .i64 6, .int .i64 gm, .int .i64 f, .int .i64 t, .int .i64 te, .int .i64 ix, .int .i64 lt, .int .i64 co, .bool true, .slice none 0 0, .int .i64 0, .int .i64 0, .slice none 0 0, .slice none 0 0, .slice none 0 0, .int .i64 0, .int .i64 0, .int .i64 0, .int .i64 0], .pointer (some ⟨B1, 0, none⟩), .pointer (some ⟨B2, 0, none⟩), .pointer (some ⟨B3, 0, none⟩)] w0 fun e w' => ∃ p', e = .returned (.tuple #[]) ∧ MemOk X w0 (rfM R (appOkS s f ix) p') w' := by
 refine enter (fn := Tryz.f142) Tryz.func142 rfl Tryz.ntmps142 rfl (fun Az Hz => ?_)
 simp only [List.zipIdx_cons, List.zipIdx_nil, List.map_cons, List.map_nil, Nat.reduceAdd, Nat.zero_add] at Hz
 refine wp_seq_k (fun K0 hK0 => ?_)
 refine wp_region_lit ?_
 refine wpList_plain rfl (fun K hK => ?_)
 refine e_box Hz m0 70 (cs := [_, _, _, _, _, _, _, _, _, _, _, _, _, _, _, _, _, _, _]) rfl rfl rfl ?_
 clear Hz Az m0; intro g1 Az w2 Hz m2 hB2 hg2
 clear hB2 hg2
 refine hK _ _ ?_; clear hK K
 refine wpList_nil ?_
 refine hK0 _ _ ?_; clear hK0; try clear K0
 refine wp_seq_k (fun K1 hK1 => ?_)
 refine wp_seq_k (fun K2 hK2 => ?_)
 have m3 : MemOk _ _ [(1, _), (2, _), (3, _), (4, _), (5, _), (6, _), (7, _), (8, _), (61, _), (62, _), (63, _), (70, _)] _ := m2.only [1, 2, 3, 4, 5, 6, 7, 8, 61, 62, 63, 70]; clear m2
 refine region_p 9 (B := [(1, _), (2, _), (3, _), (4, _), (5, _), (6, _), (7, _), (8, _), (61, _), (62, _), (63, _), (70, _)]) (m3.to ⟨il, il, il, il, il, il, il, il, il, il, il, il, trivial⟩) m3 (by kernel_rfl) (fun w4 hP4 m4 => ?_); clear m3
 refine goR hP4 [0, 1, 2, 3, 4, 5, 6, 7, 8] [1, 2, 7] 9 0 511 Hz (m4.to ⟨il, il, il, il, il, il, il, il, il, il, il, il, trivial⟩) (.fieldAddr (off := 4) rfl Tryz.underlying55 rfl (s := 0) (by kernel_rfl) rfl <| .loadB1 hh (i := 70) rfl rfl rfl Tryz.underlying3 rfl <| .loadB1 hh (i := 61) rfl rfl rfl Tryz.underlying33 rfl <| .nilCheck rfl <| .fieldAddr (off := 0) rfl Tryz.underlying86 rfl (s := 4) (by kernel_rfl) rfl <| .fieldAddr (off := 2) rfl Tryz.underlying81 rfl (s := 1) (by kernel_rfl) rfl <| .fieldAddr (off := 2) rfl Tryz.underlying25 rfl (s := 0) (by kernel_rfl) rfl <| .loadB1 hh (i := 1) rfl rfl rfl Tryz.underlying3 rfl <| .gtr rfl rfl <| .nil) ?_
 clear Hz Az; intro Az Hz
 refine wpAnyE_done (by kernel_rfl) ?_ _
 refine hK2 _ _ ?_; clear hK2; try clear K2
 refine bool_cases Hz (t := 13) rfl ?_ ?_
 · intro hb _; exact absurd hb (by simp; omega)
 clear Hz; intro _ Hz
 refine wp_cond_false (Hz.ev (x := .tmp 13) rfl) ?_
 refine wp_skip ?_
 refine hK1 _ _ ?_; clear hK1; try clear K1
 refine wp_seq_k (fun K3 hK3 => ?_)
 replace Hz : Has 36 [(1, _), (2, _), (3, _), (4, _)] Az := Hz.only [1, 2, 3, 4]
 have m16 : MemOk _ _ [(1, _), (2, _), (3, _), (4, _), (5, _), (6, _), (7, _), (8, _), (61, _), (62, _), (63, _), (70, _)] _ := m4.only [1, 2, 3, 4, 5, 6, 7, 8, 61, 62, 63, 70]; clear m4
 refine region_p 9 (B := [(1, _), (2, _), (3, _), (4, _), (5, _), (6, _), (7, _), (8, _), (61, _), (62, _), (63, _), (70, _)]) (m16.to ⟨il, il, il, il, il, il, il, il, il, il, il, il, trivial⟩) m16 (by kernel_rfl) (fun w17 hP17 m17 => ?_); clear m16
 refine goR hP17 [0, 1, 2, 3, 4, 5, 6, 7, 8] [1, 2, 7] 9 0 511 Hz (m17.to ⟨il, il, il, il, il, il, il, il, il, il, il, il, trivial⟩) (.fieldAddr (off := 4) rfl Tryz.underlying55 rfl (s := 0) (by kernel_rfl) rfl <| .loadB1 hh (i := 70) rfl rfl rfl Tryz.underlying3 rfl <| .loadB1 hh (i := 61) rfl rfl rfl Tryz.underlying33 rfl <| .nilCheck rfl <| .fieldAddr (off := 0) rfl Tryz.underlying86 rfl (s := 4) (by kernel_rfl) rfl <| .fieldAddr (off := 2) rfl Tryz.underlying81 rfl (s := 1) (by kernel_rfl) rfl <| .fieldAddr (off := 2) rfl Tryz.underlying25 rfl (s := 0) (by kernel_rfl) rfl <| .loadB1 hh (i := 1) rfl rfl rfl Tryz.underlying3 rfl <| .eql rfl rfl <| .nil) ?_
 clear Hz Az; intro Az Hz
 refine wpAnyE_done (by kernel_rfl) ?_ _
 refine hK3 _ _ ?_; clear hK3; try clear K3
 refine bool_cases Hz (t := 26) rfl ?_ ?_
 rotate_left
 · intro hb _; exact absurd hb (by simp; omega)
 clear Hz; intro _ Hz
 refine wp_cond_true (Hz.ev (x := .tmp 26) rfl) ?_
 replace Hz : Has 36 [(1, _), (2, _), (3, _), (4, _)] Az := Hz.only [1, 2, 3, 4]
 refine wp_region_lit ?_
 refine goCh Hz (.loadB1 m17 (i := 62) rfl rfl rfl Tryz.underlying106 rfl <| .loadBR m17 (i := 70) rfl rfl Tryz.underlying55 rfl sz55roAppendOk (by simp) (by dsimp only [List.drop, List.take] <;> rfl) <| .nil) ?_
 clear Hz Az; intro Az Hz
 refine wpList_plain rfl (fun K hK => ?_)
 refine e_callG Hz rfl Tryz.func102 rfl rfl rfl rfl (ronAppendOk_s _ R s p 6 gm f t te ix lt co _ hk hro hoth hf0 hix hmx (m17.into [(1, 1), (2, 2), (3, 3), (4, 4), (5, 5), (6, 6), (7, 7), (8, 8)] (by decide) rfl)) ?_
 rintro e w31 ⟨p2, rfl, hm31⟩
 have mx31 := m17.back hm31 [(1, 1), (2, 2), (3, 3), (4, 4), (5, 5), (6, 6), (7, 7), (8, 8)] (by decide); clear hm31 m17
 have m31 : MemOk _ _ [(1, _), (2, _), (3, _), (4, _), (5, _), (6, _), (7, _), (8, _), (61, _), (62, _), (63, _), (70, _)] _ := mx31.only [1, 2, 3, 4, 5, 6, 7, 8, 61, 62, 63, 70]; clear mx31
 refine ⟨_, rfl, ?_⟩; clear Hz Az; intro Az Hz
 refine hK _ _ ?_; clear hK K
 refine wpList_nil ?_
 try dsimp only [Exit.then]
 try refine out_here ?_
 refine (ret0 (fn := Tryz.f142) Hz rfl ?_)
 exact ⟨p2, rfl, m31.only [1, 2, 3, 4, 5, 6, 7, 8]⟩
theorem rRecvAppendOk_s (X : Cx) (R : Nat) (s : RS) (p : RP) (gm f t te ix lt co : Int) (w0 : World) (hk : ROk s) (hg : gm = s.x.gr) (ht : t = s.x.id) (hf : f ≠ s.x.id) (hte : te = s.x.te) (hro : s.x.ro = 3) (hoth : (othS s).contains f = true) (hf0 : 0 ≤ f ∧ f ≤ 6) (hix : -1000000000000000 ≤ ix ∧ ix ≤ 1000000000000000) (hmx : s.bi ≤ mx s.x f ∧ mx s.x f ≤ 1000000000000000) (m0 : MemOk X w0 (rfM R s p) w0) :
   Calls Tryz.prog 23 #[.pointer (some ⟨R, 0, none⟩), .agg #[.int .i64 6, .int .i64 gm, .int .i64 f, .int .i64 t, .int .i64 te, .int .i64 ix, .int .i64 lt, .int .i64 co, .bool true, .slice none 0 0, .int .i64 0, .int .i64 0, .slice none 0 0, .slice none 0 0, .slice none 0 0, .int .i64 0, .int .i64 0, .int .i64 0, .int .i64 0]] w0 fun e w' => ∃ p' o', e = .returned (.agg #[.slice o'.pm ((appOkS s f ix).ms.map rmD).length o'.cm, .slice o'.pq ((appOkS s f ix).rs.map rrD).length o'.cq, .bool (appOkS s f ix).re]) ∧ MemOk X w0 (ouM (appOkS s f ix) o' (rfM R (clrS (appOkS s f ix)) (nilP p'))) w' := by
 refine enter (fn := Tryz.f23) Tryz.func23 rfl Tryz.ntmps23 rfl (fun Az Hz => ?_)
 simp only [List.zipIdx_cons, List.zipIdx_nil, List.map_cons, List.map_nil, Nat.reduceAdd, Nat.zero_add] at Hz
 refine wp_seq_k (fun K0 hK0 => ?_)
 refine wp_region_lit ?_
 refine wpList_plain rfl (fun K hK => ?_)
 refine e_box Hz m0 70 (cs := [_, _, _, _, _, _, _, _, _, _, _, _, _, _, _, _, _, _, _]) rfl rfl rfl ?_
 clear Hz Az m0; intro g1 Az w2 Hz m2 hB2 hg2
 clear hB2 hg2
 refine hK _ _ ?_; clear hK K
 refine wpList_plain rfl (fun K hK => ?_)
 refine e_alloc Hz m2 71 zc46rrAppendOk rfl ?_
 clear Hz Az m2; intro g3 Az w4 Hz m4 hB4 hg4
 clear hB4 hg4
 refine hK _ _ ?_; clear hK K
 refine wpList_nil ?_
 refine hK0 _ _ ?_; clear hK0; try clear K0
 refine wp_seq_k (fun K1 hK1 => ?_)
 refine wp_seq_k (fun K2 hK2 => ?_)
 have m5 : MemOk _ _ [(1, _), (2, _), (3, _), (4, _), (5, _), (6, _), (7, _), (8, _), (70, _), (71, _)] _ := m4.only [1, 2, 3, 4, 5, 6, 7, 8, 70, 71]; clear m4
 refine region_p 28 (B := [(1, _), (2, _), (3, _), (4, _), (5, _), (6, _), (7, _), (8, _), (70, _), (71, _)]) (m5.to ⟨il, il, il, il, il, il, il, il, il, il, trivial⟩) m5 (by kernel_rfl) (fun w6 hP6 m6 => ?_); clear m5
 refine goR hP6 [0, 1, 2, 3, 4, 5, 6, 7, 8] [1, 6] 9 0 511 Hz (m6.to ⟨il, il, il, il, il, il, il, il, il, il, trivial⟩) (.fieldAddr (off := 1) rfl Tryz.underlying55 rfl (s := 0) (by kernel_rfl) rfl <| .loadB1 hh (i := 70) rfl rfl rfl Tryz.underlying3 rfl <| .move rfl <| .nilCheck rfl <| .fieldAddr (off := 0) rfl Tryz.underlying86 rfl (s := 4) (by kernel_rfl) rfl <| .fieldAddr (off := 1) rfl Tryz.underlying81 rfl (s := 0) (by kernel_rfl) rfl <| .loadB1 hh (i := 1) rfl rfl rfl Tryz.underlying3 rfl <| .neq rfl rfl <| .move rfl <| .nil) ?_
 clear Hz Az; intro Az Hz
 refine bool_cases Hz (t := 14) rfl ?_ ?_
 · intro hb _; exact absurd hb (by simp; omega)
 clear Hz; intro _ Hz
 refine goR hP6 [9, 10, 11, 12, 13, 14, 15, 16, 17, 18] [10, 15] 10 511 524287 Hz (m6.to ⟨il, il, il, il, il, il, il, il, il, il, trivial⟩) (.fieldAddr (off := 3) rfl Tryz.underlying55 rfl (s := 0) (by kernel_rfl) rfl <| .loadB1 hh (i := 70) rfl rfl rfl Tryz.underlying3 rfl <| .move rfl <| .nilCheck rfl <| .fieldAddr (off := 0) rfl Tryz.underlying86 rfl (s := 4) (by kernel_rfl) rfl <| .fieldAddr (off := 0) rfl Tryz.underlying81 rfl (s := 0) (by kernel_rfl) rfl <| .loadB1 hh (i := 1) rfl rfl rfl Tryz.underlying3 rfl <| .neq rfl rfl <| .pickF rfl rfl <| .move rfl <| .nil) ?_
 clear Hz Az; intro Az Hz
 refine bool_cases Hz (t := 24) rfl ?_ ?_
 · intro hb _; exact absurd hb (by simp; omega)
 clear Hz; intro _ Hz
 refine goR hP6 [19, 20, 21, 22, 23, 24, 25, 26, 27] [20, 25] 9 524287 268435455 Hz (m6.to ⟨il, il, il, il, il, il, il, il, il, il, trivial⟩) (.fieldAddr (off := 2) rfl Tryz.underlying55 rfl (s := 0) (by kernel_rfl) rfl <| .loadB1 hh (i := 70) rfl rfl rfl Tryz.underlying3 rfl <| .move rfl <| .nilCheck rfl <| .fieldAddr (off := 0) rfl Tryz.underlying86 rfl (s := 4) (by kernel_rfl) rfl <| .fieldAddr (off := 0) rfl Tryz.underlying81 rfl (s := 0) (by kernel_rfl) rfl <| .loadB1 hh (i := 1) rfl rfl rfl Tryz.underlying3 rfl <| .eql rfl rfl <| .pickF rfl rfl <| .nil) ?_
 clear Hz Az; intro Az Hz
 refine wpAnyE_done (by kernel_rfl) ?_ _
 refine hK2 _ _ ?_; clear hK2; try clear K2
 refine bool_cases Hz (t := 33) rfl ?_ ?_
 · intro hb _; exact absurd hb (by simp; omega)
 clear Hz; intro _ Hz
 refine wp_cond_false (Hz.ev (x := .tmp 33) rfl) ?_
 refine wp_skip ?_
 refine hK1 _ _ ?_; clear hK1; try clear K1
 refine wp_seq_k (fun K3 hK3 => ?_)
 replace Hz : Has 46 [(0, _), (3, _), (4, _)] Az := Hz.only [0, 3, 4]
 refine wp_seq_k (fun K4 hK4 => ?_)
 refine wp_region_lit ?_
 refine goCh Hz (.move rfl <| .fieldAddr (off := 0) rfl Tryz.underlying55 rfl (s := 0) (by kernel_rfl) rfl <| .loadB1 m6 (i := 70) rfl rfl rfl Tryz.underlying3 rfl <| .nil) ?_
 clear Hz Az; intro Az Hz
 refine wpList_plain rfl (fun K hK => ?_)
 refine e_call Hz Tryz.func60 rfl rfl rfl rfl (rhandler6_s _ R _ (m6.into [] (by decide) rfl)) ?_
 rintro e w45 ⟨B1, B2, B3, rfl, hm45⟩
 have mx45 := m6.back hm45 [(61, 61), (62, 62), (63, 63)] (by decide); clear hm45 m6
 have m45 : MemOk _ _ [(61, _), (62, _), (63, _), (1, _), (2, _), (3, _), (4, _), (5, _), (6, _), (7, _), (8, _), (70, _), (71, _)] _ := mx45.only [61, 62, 63, 1, 2, 3, 4, 5, 6, 7, 8, 70, 71]; clear mx45
 refine ⟨_, rfl, ?_⟩; clear Hz Az; intro Az Hz
 refine hK _ _ ?_; clear hK K
 refine goCh Hz (.assign rfl .nil) ?_
 clear Hz Az; intro Az Hz
 refine wpList_nil ?_
 refine hK4 _ _ ?_; clear hK4; try clear K4
 refine regS Hz (.move rfl <| .c rfl (fun _ h_ => y_neqF h_ rfl rfl Tryz.underlying106) <| .nil) ?_
 clear Hz Az; intro Az Hz
 refine wp_cond_true (Hz.ev (x := .tmp 40) rfl) ?_
 replace Hz : Has 46 [(0, _), (3, _), (4, _), (5, _)] Az := Hz.only [0, 3, 4, 5]
 refine wp_region_lit ?_
 refine goCh Hz (.move rfl <| .loadBR m45 (i := 70) rfl rfl Tryz.underlying55 rfl sz55rrAppendOk (by simp) (by dsimp only [List.drop, List.take] <;> rfl) <| .nil) ?_
 clear Hz Az; intro Az Hz
 refine wpList_plain rfl (fun K hK => ?_)
 refine e_callC Hz rfl Tryz.func142 rfl rfl rfl rfl (rofAppendOk_s _ R s p gm f t te ix lt co B1 B2 B3 _ hk hte hro hoth hf0 hix hmx (m45.into [(61, 61), (62, 62), (63, 63), (1, 1), (2, 2), (3, 3), (4, 4), (5, 5), (6, 6), (7, 7), (8, 8)] (by decide) rfl)) ?_
 rintro e w53 ⟨p2, rfl, hm53⟩
 have mx53 := m45.back hm53 [(1, 1), (2, 2), (3, 3), (4, 4), (5, 5), (6, 6), (7, 7), (8, 8)] (by decide); clear hm53 m45
 have m53 : MemOk _ _ [(1, _), (2, _), (3, _), (4, _), (5, _), (6, _), (7, _), (8, _), (70, _), (71, _)] _ := mx53.only [1, 2, 3, 4, 5, 6, 7, 8, 70, 71]; clear mx53
 refine ⟨_, rfl, ?_⟩; clear Hz Az; intro Az Hz
 refine hK _ _ ?_; clear hK K
 refine wpList_nil ?_
 refine hK3 _ _ ?_; clear hK3; try clear K3
 refine wp_seq_k (fun K5 hK5 => ?_)
 refine wp_region_lit ?_
 refine goCh Hz (.move rfl .nil) ?_
 clear Hz Az; intro Az Hz
 refine wpList_plain rfl (fun K hK => ?_)
 refine e_call Hz Tryz.func47 rfl rfl rfl rfl (rtaken_s _ R (appOkS s f ix) p2 _ (m53.into [(1, 1), (2, 2), (3, 3), (4, 4), (5, 5), (6, 6), (7, 7), (8, 8)] (by decide) rfl)) ?_
 rintro e w57 ⟨p9, o9, rfl, hm57⟩
 have mx57 := m53.back hm57 [(1, 1), (2, 2), (3, 3), (4, 4), (5, 5), (6, 6), (7, 7), (8, 8), (11, 11), (12, 12)] (by decide); clear hm57 m53
 have m57 : MemOk _ _ [(1, _), (2, _), (3, _), (4, _), (5, _), (6, _), (7, _), (8, _), (11, _), (12, _), (70, _), (71, _)] _ := mx57.only [1, 2, 3, 4, 5, 6, 7, 8, 11, 12, 70, 71]; clear mx57
 refine ⟨_, rfl, ?_⟩; clear Hz Az; intro Az Hz
 refine hK _ _ ?_; clear hK K
 refine wpList_plain rfl (fun K hK => ?_)
 refine e_storeW Hz m57 71 rfl rfl rfl rfl rfl sz46rrAppendOk ?_
 clear m57; intro w59 m59 hB59
 clear hB59
 refine hK _ _ ?_; clear hK K
 refine wpList_nil ?_
 refine hK5 _ _ ?_; clear hK5; try clear K5
 refine wp_ret ?_
 try dsimp only [Exit.then, Exit.inBlock]
 refine (retC (fn := Tryz.f23) Hz m59 (i := 71) rfl rfl rfl Tryz.underlying46 rfl sz46rrAppendOk ?_)
 exact ⟨p9, o9, rfl, m59.only [11, 12, 1, 2, 3, 4, 5, 6, 7, 8]⟩
end Go.Proofs.YtndnnlbdnjndiaaGreat.K
