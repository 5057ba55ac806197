/- raft: saveHard, down. -/
import Derived.Test.YtndnnlbdnjndiaaGreatRaf2
namespace Go.Proofs.YtndnnlbdnjndiaaGreat.K
open Go.ChangeShapes Go.WideShapes Go.ChangeAt Go.RowKit
set_option linter.unusedVariables false
set_option linter.unusedSimpArgs false

theorem ps118rsh : placesS Tryz.prog 118 = some [(0, 1), (1, 1), (2, 2), (4, 4), (8, 4)] := by kernel_rfl
theorem sz25rsh : (Tryz.prog.info? 25).map (·.size) = some 2 := by kernel_rfl
theorem zc118rsh : ((Tryz.prog.info? 118).bind (·.zero)).map (·.cells.toList) = some [.int .i64 0, .int .i64 0, .int .i64 0, .int .i64 0, .int .i64 0, .int .i64 0, .int .i64 0, .slice none 0 0, .int .i64 0, .int .i64 0, .slice none 0 0, .slice none 0 0] := by kernel_rfl
def hardR (x : RV) : RR := ⟨0, 1, x.te, x.vo, 0, 0, 0, [], 0, 0, [], []⟩
set_option maxRecDepth 100000
set_option maxHeartbeats 4000000
theorem rsaveHard_x (X : Cx) (R L : Nat) (x : RV) (ys ms : Value) (re : Bool) (Q : List RR) (pq : Option Addr) (cq : Nat) (w0 : World) (hQ : Q.length ≤ 1000000) (m0 : MemOk X w0 [(1, .box R 86 (raC x L ys ms (.slice pq (Q.map rrD).length cq) re)), (8, .seg (.slice pq (Q.map rrD).length cq) 118 12 (Q.map rrD))] w0) :
   Calls Tryz.prog 135 #[.pointer (some ⟨R, 0, none⟩)] w0 fun e w' => ∃ (p' : Option Addr) (c' : Nat), e = .returned (.tuple #[]) ∧ MemOk X w0 [(1, .box R 86 (raC x L ys ms (.slice p' ((Q ++ [{ hardR x with g := x.gr }]).map rrD).length c') re)), (8, .seg (.slice p' ((Q ++ [{ hardR x with g := x.gr }]).map rrD).length c') 118 12 ((Q ++ [{ hardR x with g := x.gr }]).map rrD))] w' := by
 refine enter (fn := Tryz.f135) Tryz.func135 rfl Tryz.ntmps135 rfl (fun Az Hz => ?_)
 simp only [List.zipIdx_cons, List.zipIdx_nil, List.map_cons, List.map_nil, Nat.reduceAdd, Nat.zero_add] at Hz
 refine wp_region_lit ?_
 refine goCh Hz (.move rfl <| .move rfl <| .nilCheck rfl <| .fieldAddr (off := 0) rfl Tryz.underlying86 rfl (s := 4) (by kernel_rfl) rfl <| .fieldAddr (off := 2) rfl Tryz.underlying81 rfl (s := 1) (by kernel_rfl) rfl <| .loadBR m0 (i := 1) rfl rfl Tryz.underlying25 rfl sz25rsh (by simp) (by dsimp only [List.drop, List.take] <;> rfl) <| .buildG rfl zc118rsh ps118rsh rfl <| .nil) ?_
 clear Hz Az; intro Az Hz
 have m8 := m0.dat 60 rfl (Rd.nilN _ _ .u8 none); clear m0
 have m9 := m8.dat 61 rfl (Rd.nilN _ _ .i64 none); clear m8
 have m10 := m9.dat 62 rfl (Rd.nilN _ _ .u8 none); clear m9
 refine wpList_plain rfl (fun K hK => ?_)
 refine e_call Hz Tryz.func73 rfl rfl rfl rfl (rsave_x _ _ _ x _ _ _ Q (hardR x) none none none _ 0 0 0 _ _ hQ (m10.into [(1, 1), (8, 8), (9, 60), (10, 61), (11, 62)] (by decide) rfl)) ?_
 rintro e w11 ⟨p11, c11, rfl, hm11⟩
 have mx11 := m10.back hm11 [(1, 1), (8, 8)] (by decide); clear hm11 m10
 have m11 : MemOk _ _ [(1, _), (8, _)] _ := mx11.only [1, 8]; clear mx11
 refine ⟨_, rfl, ?_⟩; clear Hz Az; intro Az Hz
 refine hK _ _ ?_; clear hK K
 refine wpList_nil ?_
 try dsimp only [Exit.then]
 try refine out_here ?_
 refine (ret0 (fn := Tryz.f135) Hz rfl ?_)
 exact ⟨_, _, rfl, m11.only [1, 8]⟩
end Go.Proofs.YtndnnlbdnjndiaaGreat.K
