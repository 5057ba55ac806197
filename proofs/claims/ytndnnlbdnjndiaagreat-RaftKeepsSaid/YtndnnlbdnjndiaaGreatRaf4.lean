/- raft: reply. -/
import Derived.Test.YtndnnlbdnjndiaaGreatRaf3
namespace Go.Proofs.YtndnnlbdnjndiaaGreat.K
open Go.ChangeShapes Go.WideShapes Go.ChangeAt Go.RowKit
set_option linter.unusedVariables false
set_option linter.unusedSimpArgs false

theorem ps55rre : placesS Tryz.prog 55 = some [(0, 1), (1, 1), (2, 1), (3, 1), (4, 1), (5, 1), (6, 1), (7, 1), (8, 1), (9, 1), (10, 4), (14, 1), (15, 1), (16, 1), (17, 1), (18, 1)] := by kernel_rfl
theorem zc55rre : ((Tryz.prog.info? 55).bind (·.zero)).map (·.cells.toList) = some [.int .i64 0, .int .i64 0, .int .i64 0, .int .i64 0, .int .i64 0, .int .i64 0, .int .i64 0, .int .i64 0, .bool false, .slice none 0 0, .int .i64 0, .int .i64 0, .slice none 0 0, .slice none 0 0, .slice none 0 0, .int .i64 0, .int .i64 0, .int .i64 0, .int .i64 0] := by kernel_rfl

theorem Rd.nil4 (S : Nat → Prop) (w : World) : Rd S w (.slice none 0 0) (.l 4 (([] : List En).map entD)) := .l0 none 0 4
def replyR (x : RV) (kd : Int) (ok : Bool) (ix : Int) : RM := ⟨kd, 0, 0, 0, x.te, ix, 0, 0, ok, [], 0, 0, [], [], [], 0, 0, 0, 0⟩
set_option maxRecDepth 100000
set_option maxHeartbeats 4000000
theorem rreply_x (X : Cx) (R L : Nat) (x : RV) (ys rs : Value) (re : Bool) (Q : List RM) (r : RM) (kd : Int) (ok : Bool) (ix : Int) (pe pc pd pf pq : Option Addr) (ne nc nd nf ce cc cd cf cq : Nat) (w0 : World) (hQ : Q.length ≤ 1000000) (m0 : MemOk X w0 [(1, .box R 86 (raC x L ys (.slice pq (Q.map rmD).length cq) rs re)), (7, .seg (.slice pq (Q.map rmD).length cq) 55 19 (Q.map rmD))] w0) :
   Calls Tryz.prog 139 #[.pointer (some ⟨R, 0, none⟩), .agg #[.int .i64 r.k, .int .i64 r.g, .int .i64 r.f, .int .i64 r.t, .int .i64 r.te, .int .i64 r.ix, .int .i64 r.lt, .int .i64 r.co, .bool r.ok, .slice pe ne ce, .int .i64 r.bi, .int .i64 r.bt, .slice pc nc cc, .slice pd nd cd, .slice pf nf cf, .int .i64 r.vo, .int .i64 r.ch, .int .i64 r.ma, .int .i64 r.fl], .int .i64 kd, .bool ok, .int .i64 ix] w0 fun e w' => ∃ (p' : Option Addr) (c' : Nat), e = .returned (.tuple #[]) ∧ MemOk X w0 [(1, .box R 86 (raC x L ys (.slice p' ((Q ++ [{ replyR x kd ok ix with g := x.gr, f := x.id, t := r.f }]).map rmD).length c') rs re)), (7, .seg (.slice p' ((Q ++ [{ replyR x kd ok ix with g := x.gr, f := x.id, t := r.f }]).map rmD).length c') 55 19 ((Q ++ [{ replyR x kd ok ix with g := x.gr, f := x.id, t := r.f }]).map rmD))] w' := by
 refine enter (fn := Tryz.f139) Tryz.func139 rfl Tryz.ntmps139 rfl (fun Az Hz => ?_)
 simp only [List.zipIdx_cons, List.zipIdx_nil, List.map_cons, List.map_nil, Nat.reduceAdd, Nat.zero_add] at Hz
 refine wp_seq_k (fun K0 hK0 => ?_)
 refine wp_region_lit ?_
 refine wpList_plain rfl (fun K hK => ?_)
 refine e_box Hz m0 30 (cs := [_, _, _, _, _, _, _, _, _, _, _, _, _, _, _, _, _, _, _]) rfl rfl rfl ?_
 clear Hz Az m0; intro g1 Az w2 Hz m2 hB2 hg2
 clear hB2 hg2
 refine hK _ _ ?_; clear hK K
 refine wpList_nil ?_
 refine hK0 _ _ ?_; clear hK0; try clear K0
 have m3 : MemOk _ _ [(1, _), (7, _), (30, _)] _ := m2.only [1, 7, 30]; clear m2
 refine region_p 13 (B := [(1, _), (7, _), (30, _)]) (m3.to ⟨il, il, il, trivial⟩) m3 (by kernel_rfl) (fun w4 hP4 m4 => ?_); clear m3
 refine goR hP4 [0, 1, 2, 3, 4, 5, 6, 7, 8, 9, 10, 11, 12] [2, 9] 13 0 8191 Hz (m4.to ⟨il, il, il, trivial⟩) (.move rfl <| .fieldAddr (off := 2) rfl Tryz.underlying55 rfl (s := 0) (by kernel_rfl) rfl <| .loadB1 hh (i := 30) rfl rfl rfl Tryz.underlying3 rfl <| .move rfl <| .move rfl <| .nilCheck rfl <| .fieldAddr (off := 0) rfl Tryz.underlying86 rfl (s := 4) (by kernel_rfl) rfl <| .fieldAddr (off := 2) rfl Tryz.underlying81 rfl (s := 1) (by kernel_rfl) rfl <| .fieldAddr (off := 2) rfl Tryz.underlying25 rfl (s := 0) (by kernel_rfl) rfl <| .loadB1 hh (i := 1) rfl rfl rfl Tryz.underlying3 rfl <| .move rfl <| .move rfl <| .p (fun _ _ h_ => y_buildG h_ rfl zc55rre ps55rre rfl) <| .nil) ?_
 clear Hz Az; intro Az Hz
 have m18 := m4.dat 59 rfl (Rd.nil4 _ _); clear m4
 have m19 := m18.dat 60 rfl (Rd.nilN _ _ .i64 none); clear m18
 have m20 := m19.dat 61 rfl (Rd.nilN _ _ .u8 none); clear m19
 have m21 := m20.dat 62 rfl (Rd.nilN _ _ .u8 none); clear m20
 refine stepE_end 13 rfl (by kernel_rfl) rfl (by rfl) (fun K hK => ?_)
 refine e_call Hz Tryz.func129 rfl rfl rfl rfl (rsend_x _ _ _ x _ _ _ Q r.f (replyR x kd ok ix) none none none none _ 0 0 0 0 _ _ hQ (m21.into [(1, 1), (7, 7), (9, 59), (10, 60), (11, 61), (12, 62)] (by decide) rfl)) ?_
 rintro e w22 ⟨p22, c22, rfl, hm22⟩
 have mx22 := m21.back hm22 [(1, 1), (7, 7)] (by decide); clear hm22 m21
 have m22 : MemOk _ _ [(1, _), (7, _), (30, _)] _ := mx22.only [1, 7, 30]; clear mx22
 refine ⟨_, rfl, ?_⟩; clear Hz Az; intro Az Hz
 refine hK _ _ ?_; clear hK K
 refine wpAnyE_done (by kernel_rfl) ?_ _
 try dsimp only [Exit.then]
 try refine out_here ?_
 refine (ret0 (fn := Tryz.f139) Hz rfl ?_)
 exact ⟨_, _, rfl, m22.only [1, 7]⟩
end Go.Proofs.YtndnnlbdnjndiaaGreat.K
