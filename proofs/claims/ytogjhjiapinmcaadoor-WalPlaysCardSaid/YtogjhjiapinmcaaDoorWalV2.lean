/- The reference's Num, of any bytes. -/
import Derived.Test.YtogjhjiapinmcaaDoorWalV1
namespace Go.Proofs.YtogjhjiapinmcaaDoor.K
open Go.ChangeShapes Go.WideShapes Go.ChangeAt Go.RowKit
set_option linter.unusedVariables false
set_option linter.unusedSimpArgs false

theorem sz3xfa : (Tryd.prog.info? 3).map (·.size) = some 1 := by kernel_rfl
theorem sz24xfa : (Tryd.prog.info? 24).map (·.size) = some 1 := by kernel_rfl
set_option maxRecDepth 100000
set_option maxHeartbeats 4000000
theorem rfail_x (X : Cx) (B : Nat) (v : Value) (er cd : Int) (w0 : World) (m0 : MemOk X w0 [(1, .box B 95 [v, .int .i64 er])] w0) :
   Calls Tryd.prog 61 #[.pointer (some ⟨B, 0, none⟩), .int .i64 cd] w0 fun e w' => e = .returned (.tuple #[]) ∧ MemOk X w0 [(1, .box B 95 [.slice none 0 0, .int .i64 cd])] w' := by
 refine enter (fn := Tryd.f61) Tryd.func61 rfl Tryd.ntmps61 rfl (fun Az Hz => ?_)
 simp only [List.zipIdx_cons, List.zipIdx_nil, List.map_cons, List.map_nil, Nat.reduceAdd, Nat.zero_add] at Hz
 refine wp_region_lit ?_
 refine goCh Hz (.move rfl <| .move rfl <| .move rfl <| .nilCheck rfl <| .fieldAddr (off := 0) rfl Tryd.underlying95 rfl (s := 0) (by kernel_rfl) rfl <| .nil) ?_
 clear Hz Az; intro Az Hz
 refine wpList_plain rfl (fun K hK => ?_)
 refine e_store1 Hz m0 1 rfl rfl rfl rfl rfl sz24xfa (by dsimp only [List.set] <;> rfl) ?_
 clear m0; intro w6 m6 hB6
 clear hB6
 refine hK _ _ ?_; clear hK K
 refine goCh Hz (.nilCheck rfl <| .fieldAddr (off := 1) rfl Tryd.underlying95 rfl (s := 0) (by kernel_rfl) rfl <| .nil) ?_
 clear Hz Az; intro Az Hz
 refine wpList_plain rfl (fun K hK => ?_)
 refine e_store1 Hz m6 1 rfl rfl rfl rfl rfl sz3xfa (by dsimp only [List.set] <;> rfl) ?_
 clear m6; intro w9 m9 hB9
 clear hB9
 refine hK _ _ ?_; clear hK K
 refine wpList_nil ?_
 try dsimp only [Exit.then]
 try refine out_here ?_
 refine (ret0 (fn := Tryd.f61) Hz rfl ?_)
 exact ⟨rfl, m9.only [1]⟩
end Go.Proofs.YtogjhjiapinmcaaDoor.K
