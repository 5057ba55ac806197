/- The reference's Four. -/
import Derived.Test.YtogjhjiapinmcaaDoorWalV2
namespace Go.Proofs.YtogjhjiapinmcaaDoor.K
open Go.ChangeShapes Go.WideShapes Go.ChangeAt Go.RowKit
set_option linter.unusedVariables false
set_option linter.unusedSimpArgs false

theorem inf5rfo : (Tryd.prog.info? 5).map (fun i => (i.zero, i.size, i.bytes)) = some (some (.int .u8 0), 1, 1) := by kernel_rfl

set_option maxRecDepth 100000
set_option maxHeartbeats 4000000
theorem rfour_x (c0 : Int) (w0 : World) (hc : 0 ≤ c0 ∧ c0 < 4294967296) :
   Calls Tryd.prog 54 #[.int .u32 c0] w0 fun e w' => ∃ (p : Option Addr) (c : Nat), e = .returned (.slice p (fourC c0).length c) ∧ w'.ownsRow w0.heap.size 5 1 (.slice p (fourC c0).length c) (fourC c0).length ((fourC c0).map (Value.int .u8)) ∧ Below w0.heap.size w0 w' := by
 refine enter (fn := Tryd.f54) Tryd.func54 rfl Tryd.ntmps54 rfl (fun Az Hz => ?_)
 simp only [List.zipIdx_cons, List.zipIdx_nil, List.map_cons, List.map_nil, Nat.reduceAdd, Nat.zero_add] at Hz
 have m0 := MemOk.start (fun _ => False) w0
 refine regS Hz (.assign rfl <| .nil) ?_
 clear Hz Az; intro Az Hz
 refine wp_seq_k (fun K0 hK0 => ?_)
 refine wp_region_lit ?_
 refine goCh Hz (.move rfl <| .conv rfl Tryd.underlying80 Tryd.underlying5 (r := c0 % 256) (by simp [IntKind.wrap, IntKind.signed, IntKind.bits]) <| .move rfl <| .shr rfl rfl (by decide) (r := c0 / 256) (by rw [show (2 : Int) ^ min (8 : Int).toNat IntKind.u32.bits = 256 from by decide, Int.fdiv_eq_ediv_of_nonneg _ (by decide)]) <| .conv rfl Tryd.underlying80 Tryd.underlying5 (r := (c0 / 256) % 256) (by simp [IntKind.wrap, IntKind.signed, IntKind.bits]) <| .move rfl <| .shr rfl rfl (by decide) (r := c0 / 65536) (by rw [show (2 : Int) ^ min (16 : Int).toNat IntKind.u32.bits = 65536 from by decide, Int.fdiv_eq_ediv_of_nonneg _ (by decide)]) <| .conv rfl Tryd.underlying80 Tryd.underlying5 (r := (c0 / 65536) % 256) (by simp [IntKind.wrap, IntKind.signed, IntKind.bits]) <| .move rfl <| .shr rfl rfl (by decide) (r := c0 / 16777216) (by rw [show (2 : Int) ^ min (24 : Int).toNat IntKind.u32.bits = 16777216 from by decide, Int.fdiv_eq_ediv_of_nonneg _ (by decide)]) <| .conv rfl Tryd.underlying80 Tryd.underlying5 (r := (c0 / 16777216) % 256) (by simp [IntKind.wrap, IntKind.signed, IntKind.bits]) <| .nil) ?_
 clear Hz Az; intro Az Hz
 refine wpList_plain rfl (fun K hK => ?_)
 refine e_litN Hz m0 20 (k := .u8) rfl rfl Tryd.underlying24 inf5rfo rfl rfl rfl rfl ?_
 clear Hz Az m0; intro g24 Az w25 Hz m25
 refine hK _ _ ?_; clear hK K
 refine goCh Hz (.assign rfl .nil) ?_
 clear Hz Az; intro Az Hz
 refine wpList_nil ?_
 refine hK0 _ _ ?_; clear hK0; try clear K0
 refine wp_ret ?_
 try dsimp only [Exit.then, Exit.inBlock]
 refine (ret1 (fn := Tryd.f54) Hz rfl rfl ?_)
 exact ⟨_, _, rfl, m25.ok 20 _ rfl, m25.below⟩
end Go.Proofs.YtogjhjiapinmcaaDoor.K
