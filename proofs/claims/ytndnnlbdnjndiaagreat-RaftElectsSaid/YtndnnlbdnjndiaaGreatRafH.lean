/- raft: onAppendOk (of Ok), handler, ofTerm. -/
import Derived.Test.YtndnnlbdnjndiaaGreatRafG
namespace Go.Proofs.YtndnnlbdnjndiaaGreat.K
open Go.ChangeShapes Go.WideShapes Go.ChangeAt Go.RowKit
set_option linter.unusedVariables false
set_option linter.unusedSimpArgs false

def ackS (s : RS) (f ix : Int) : RS := withX s (setN (setM s.x f (max (mx s.x f) ix)) f ((max (mx s.x f) ix) + 1))
def appOkS (s : RS) (f ix : Int) : RS := if mx s.x f < ix then (if nx (countS (ackS s f ix)).x f ≤ lastS (countS (ackS s f ix)) then wordS (countS (ackS s f ix)) f else (countS (ackS s f ix))) else (ackS s f ix)
set_option maxRecDepth 100000
set_option maxHeartbeats 4000000
theorem rofTerm_s (X : Cx) (R F : Nat) (no : Int) (w0 : World) (m0 : MemOk X w0 [] w0) :
   Calls Tryz.prog 98 #[.pointer (some ⟨R, 0, none⟩), .func (.func F) #[.pointer (some ⟨R, 0, none⟩)] #[], .int .i64 no] w0 fun e w' => ∃ B1 B2 B3, e = .returned (.func (.func 142) #[] #[.pointer (some ⟨B1, 0, none⟩), .pointer (some ⟨B2, 0, none⟩), .pointer (some ⟨B3, 0, none⟩)]) ∧ MemOk X w0 [(61, .box B1 33 [.pointer (some ⟨R, 0, none⟩)]), (62, .box B2 106 [(.func (.func F) #[.pointer (some ⟨R, 0, none⟩)] #[])]), (63, .box B3 3 [.int .i64 no])] w' := by
 refine enter (fn := Tryz.f98) Tryz.func98 rfl Tryz.ntmps98 rfl (fun Az Hz => ?_)
 simp only [List.zipIdx_cons, List.zipIdx_nil, List.map_cons, List.map_nil, Nat.reduceAdd, Nat.zero_add] at Hz
 refine wp_seq_k (fun K0 hK0 => ?_)
 refine wp_region_lit ?_
 refine wpList_plain rfl (fun K hK => ?_)
 refine e_box Hz m0 50 rfl rfl rfl ?_
 clear Hz Az m0; intro g1 Az w2 Hz m2 hB2 hg2
 clear hB2 hg2
 refine hK _ _ ?_; clear hK K
 refine wpList_plain rfl (fun K hK => ?_)
 refine e_box Hz m2 51 rfl rfl rfl ?_
 clear Hz Az m2; intro g3 Az w4 Hz m4 hB4 hg4
 clear hB4 hg4
 refine hK _ _ ?_; clear hK K
 refine wpList_plain rfl (fun K hK => ?_)
 refine e_box Hz m4 52 rfl rfl rfl ?_
 clear Hz Az m4; intro g5 Az w6 Hz m6 hB6 hg6
 clear hB6 hg6
 refine hK _ _ ?_; clear hK K
 refine goCh Hz (.assign rfl .nil) ?_
 clear Hz Az; intro Az Hz
 refine wpList_nil ?_
 refine hK0 _ _ ?_; clear hK0; try clear K0
 refine regS Hz (.makeFunc rfl <| .assign rfl <| .nil) ?_
 clear Hz Az; intro Az Hz
 refine wp_ret ?_
 try dsimp only [Exit.then, Exit.inBlock]
 refine (ret1 (fn := Tryz.f98) Hz rfl rfl ?_)
 exact ⟨_, _, _, rfl, m6.ren [(61, 50), (62, 51), (63, 52)] (by decide)⟩
theorem rhandler2_s (X : Cx) (R : Nat) (w0 : World) (m0 : MemOk X w0 [] w0) :
   Calls Tryz.prog 60 #[.pointer (some ⟨R, 0, none⟩), .int .i64 2] w0 fun e w' => e = .returned (.func (.func 97) #[.pointer (some ⟨R, 0, none⟩)] #[]) ∧ MemOk X w0 [] w' := by
 refine enter (fn := Tryz.f60) Tryz.func60 rfl Tryz.ntmps60 rfl (fun Az Hz => ?_)
 simp only [List.zipIdx_cons, List.zipIdx_nil, List.map_cons, List.map_nil, Nat.reduceAdd, Nat.zero_add] at Hz
 refine regS Hz (.assign rfl <| .nil) ?_
 clear Hz Az; intro Az Hz
 refine wp_seq_k (fun K0 hK0 => ?_)
 refine regS Hz (.move rfl <| .nil) ?_
 clear Hz Az; intro Az Hz
 refine wp_block ?_
 refine regS Hz (.eql rfl rfl <| .assign rfl <| .nil) ?_
 clear Hz Az; intro Az Hz
 refine bool_cases Hz (t := 6) rfl ?_ ?_
 · intro hb _; exact absurd hb (by decide)
 clear Hz; intro _ Hz
 refine wp_cond_false (Hz.ev (x := .tmp 6) rfl) ?_
 refine regS Hz (.eql rfl rfl <| .assign rfl <| .nil) ?_
 clear Hz Az; intro Az Hz
 refine bool_cases Hz (t := 10) rfl ?_ ?_
 rotate_left
 · intro hb _; exact absurd hb (by decide)
 clear Hz; intro _ Hz
 refine wp_cond_true (Hz.ev (x := .tmp 10) rfl) ?_
 refine regS Hz (.move rfl <| .c rfl (fun _ h_ => y_makeFuncB h_ rfl rfl) <| .assign rfl <| .nil) ?_
 clear Hz Az; intro Az Hz
 refine wp_ret ?_
 try dsimp only [Exit.then, Exit.inBlock]
 refine (ret1 (fn := Tryz.f60) Hz rfl rfl ?_)
 exact ⟨rfl, m0⟩
theorem rhandler4_s (X : Cx) (R : Nat) (w0 : World) (m0 : MemOk X w0 [] w0) :
   Calls Tryz.prog 60 #[.pointer (some ⟨R, 0, none⟩), .int .i64 4] w0 fun e w' => ∃ B1 B2 B3, e = .returned (.func (.func 142) #[] #[.pointer (some ⟨B1, 0, none⟩), .pointer (some ⟨B2, 0, none⟩), .pointer (some ⟨B3, 0, none⟩)]) ∧ MemOk X w0 [(61, .box B1 33 [.pointer (some ⟨R, 0, none⟩)]), (62, .box B2 106 [(.func (.func 100) #[.pointer (some ⟨R, 0, none⟩)] #[])]), (63, .box B3 3 [.int .i64 0])] w' := by
 refine enter (fn := Tryz.f60) Tryz.func60 rfl Tryz.ntmps60 rfl (fun Az Hz => ?_)
 simp only [List.zipIdx_cons, List.zipIdx_nil, List.map_cons, List.map_nil, Nat.reduceAdd, Nat.zero_add] at Hz
 refine regS Hz (.assign rfl <| .nil) ?_
 clear Hz Az; intro Az Hz
 refine wp_seq_k (fun K0 hK0 => ?_)
 refine regS Hz (.move rfl <| .nil) ?_
 clear Hz Az; intro Az Hz
 refine wp_block ?_
 refine regS Hz (.eql rfl rfl <| .assign rfl <| .nil) ?_
 clear Hz Az; intro Az Hz
 refine bool_cases Hz (t := 6) rfl ?_ ?_
 · intro hb _; exact absurd hb (by decide)
 clear Hz; intro _ Hz
 refine wp_cond_false (Hz.ev (x := .tmp 6) rfl) ?_
 refine regS Hz (.eql rfl rfl <| .assign rfl <| .nil) ?_
 clear Hz Az; intro Az Hz
 refine bool_cases Hz (t := 10) rfl ?_ ?_
 · intro hb _; exact absurd hb (by decide)
 clear Hz; intro _ Hz
 refine wp_cond_false (Hz.ev (x := .tmp 10) rfl) ?_
 refine regS Hz (.eql rfl rfl <| .assign rfl <| .nil) ?_
 clear Hz Az; intro Az Hz
 refine bool_cases Hz (t := 14) rfl ?_ ?_
 · intro hb _; exact absurd hb (by decide)
 clear Hz; intro _ Hz
 refine wp_cond_false (Hz.ev (x := .tmp 14) rfl) ?_
 replace Hz : Has 44 [(0, _), (4, _), (5, _)] Az := Hz.only [0, 4, 5]
 refine regS Hz (.eql rfl rfl <| .assign rfl <| .nil) ?_
 clear Hz Az; intro Az Hz
 refine bool_cases Hz (t := 20) rfl ?_ ?_
 rotate_left
 · intro hb _; exact absurd hb (by decide)
 clear Hz; intro _ Hz
 refine wp_cond_true (Hz.ev (x := .tmp 20) rfl) ?_
 refine wp_seq_k (fun K1 hK1 => ?_)
 refine wp_region_lit ?_
 refine goCh Hz (.move rfl <| .move rfl <| .c rfl (fun _ h_ => y_makeFuncB h_ rfl rfl) <| .nil) ?_
 clear Hz Az; intro Az Hz
 refine wpList_plain rfl (fun K hK => ?_)
 refine e_call Hz Tryz.func98 rfl rfl rfl rfl (rofTerm_s _ R 100 0 _ (m0.into [] (by decide) rfl)) ?_
 rintro e w22 ⟨B1, B2, B3, rfl, hm22⟩
 have mx22 := m0.back hm22 [(61, 61), (62, 62), (63, 63)] (by decide); clear hm22 m0
 have m22 : MemOk _ _ [(61, _), (62, _), (63, _)] _ := mx22.only [61, 62, 63]; clear mx22
 refine ⟨_, rfl, ?_⟩; clear Hz Az; intro Az Hz
 refine hK _ _ ?_; clear hK K
 refine goCh Hz (.assign rfl .nil) ?_
 clear Hz Az; intro Az Hz
 refine wpList_nil ?_
 refine hK1 _ _ ?_; clear hK1; try clear K1
 refine wp_ret ?_
 try dsimp only [Exit.then, Exit.inBlock]
 refine (ret1 (fn := Tryz.f60) Hz rfl rfl ?_)
 exact ⟨B1, B2, B3, rfl, m22.only [61, 62, 63]⟩
end Go.Proofs.YtndnnlbdnjndiaaGreat.K
