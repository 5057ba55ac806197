/- volume: within, Len, placeRight, New; the reference's Chunks. -/
import Derived.Test.YtflcgpajodfkoaaDoorG2
import Derived.Lib.AppendZerosOnto
namespace Go.Proofs.YtflcgpajodfkoaaDoor.K
open Go.ChangeShapes Go.WideShapes Go.ChangeAt Go.RowKit
set_option linter.unusedVariables false
set_option linter.unusedSimpArgs false
def PlaceOk (bl pe : Int) (place : List Int) : Prop := (∀ g ∈ place, 1 ≤ g ∧ g ≤ 7) ∧ (place.length : Int) = (bl + pe - 1) / pe
def NewOk (vo bl sz pe to : Int) (place : List Int) : Prop := 0 ≤ vo ∧ vo ≤ 7 ∧ 1 ≤ bl ∧ bl ≤ 256 ∧ 1 ≤ sz ∧ sz ≤ 32 ∧ 1 ≤ pe ∧ pe ≤ bl ∧ PlaceOk bl pe place ∧ 0 ≤ to ∧ to ≤ 1099511627776
theorem getD_mem {l : List Int} {k : Nat} (h : k < l.length) : l.getD k 0 ∈ l := by rw [List.getD, List.getElem?_eq_getElem h]; exact List.getElem_mem _
theorem all_snoc {l : List Int} {k : Nat} {P : Int → Prop} (h : ∀ j, j < k → P (l.getD j 0)) (hk : P (l.getD k 0)) : ∀ j, j < k + 1 → P (l.getD j 0) := fun j hj => by
 rcases Nat.lt_or_ge j k with h1 | h1
 · exact h j h1
 obtain rfl : j = k := by omega
 exact hk
theorem all_mem {l : List Int} {P : Int → Prop} (h : ∀ j, j < l.length → P (l.getD j 0)) : ∀ g ∈ l, P g := fun g hg => by
 obtain ⟨j, hj, rfl⟩ := List.getElem_of_mem hg
 have := h j hj
 rwa [List.getD, List.getElem?_eq_getElem hj] at this
set_option maxRecDepth 100000
set_option maxHeartbeats 4000000
theorem chunks_any (a b : Int) (w0 : World) (ha : 0 ≤ a ∧ a ≤ 1000000) (hb : 1 ≤ b ∧ b ≤ 1000000) :
   Calls Tryd.prog 66 #[.int .i64 a, .int .i64 b] w0 fun e w' => e = .returned (.int .i64 ((a + b - 1) / b)) ∧ Below w0.heap.size w0 w' := by
 refine ent2 Tryd.func66 rfl Tryd.ntmps66 fun Az Hz => ?_
 have m0 := MemOk.start (fun _ => False) w0
 refine regS Hz (.assign rfl <| .nil) ?_
 clear Hz Az; intro Az Hz
 refine regS Hz (.move rfl <| .move rfl <| .add rfl rfl (r := a + b) (IntWalk.i64_in _ (by omega)) <| .sub rfl rfl (r := a + b - 1) (IntWalk.i64_in _ (by omega)) <| .move rfl <| .quo rfl rfl (by omega) (r := (a + b - 1) / b) (by rw [Int.tdiv_eq_ediv_of_nonneg (by omega)]; exact IntWalk.i64_in _ (by have := Int.ediv_le_self b (show 0 ≤ a + b - 1 by omega); have := Int.ediv_nonneg (show 0 ≤ a + b - 1 by omega) (show 0 ≤ b by omega); omega)) <| .assign rfl <| .nil) ?_
 clear Hz Az; intro Az Hz
 refine wp_ret ?_
 try dsimp only [Exit.then, Exit.inBlock]
 refine (ret1 (fn := Tryd.f66) Hz rfl rfl ?_)
 exact ⟨rfl, m0.below⟩
end Go.Proofs.YtflcgpajodfkoaaDoor.K
