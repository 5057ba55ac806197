/- stream: the reference's skip. -/
import Derived.Test.YtcccomafnmdlfaaDoorStr10
namespace Go.Proofs.YtcccomafnmdlfaaDoor.K
open Go.ChangeShapes Go.WideShapes Go.ChangeAt Go.RowKit
set_option linter.unusedVariables false
set_option linter.unusedSimpArgs false
set_option maxRecDepth 100000
set_option maxHeartbeats 4000000
theorem skip_yes (X : Cx) (B : Nat) (b : List Int) (er : Int) (j : Nat) (p : Option Addr) (c : Nat) (w0 : World) (hj : j ≤ b.length) (m0 : MemOk X w0 [(1, .box B 101 [.slice p (b).length c, .int .i64 er]), (2, .dat (.slice p (b).length c) (.ns .u8 (b)))] w0) :
   Calls Tryd.prog 46 #[.pointer (some ⟨B, 0, none⟩), .int .i64 (j : Int)] w0 fun e w' => ∃ (p' : Option Addr) (c' : Nat) (p3 : Option Addr) (c3 : Nat), e = .returned (.slice p3 j c3) ∧ MemOk X w0 [(1, .box B 101 [.slice p' (b.drop j).length c', .int .i64 er]), (2, .dat (.slice p' (b.drop j).length c') (.ns .u8 (b.drop j))), (3, .dat (.slice p3 j c3) (.ns .u8 (b.take j)))] w' := by
 refine ent2 Tryd.func46 rfl Tryd.ntmps46 fun Az Hz => ?_
 refine regS Hz (.assign rfl .nil) fun Az Hz => ?_
 refine wsk fun K0 hK0 => ?_
 refine regS Hz (.move rfl <| .move rfl <| .nilCheck rfl <| .fa 0 rfl U101 <| .lb m0 1 U22 rfl rfl rfl <| .len rfl U22 <| .gtr rfl rfl .nil) fun Az Hz => ?_
 refine bc Hz 12 ?_ ?_
 · intro hb _; exact absurd hb (by simp; omega)
 clear Hz; intro _ Hz
 refine wcf Hz ?_
 refine zss (hK0 _ _ ?_)
 replace Hz := Hz.oz [0, 1, 4]
 refine zsr fun K1 hK1 => ?_
 refine goCh Hz (.move rfl <| .nilCheck rfl <| .fa 0 rfl U101 <| .lb m0 1 U22 rfl rfl rfl <| .move rfl .nil) fun Az Hz => ?_
 have m22 := m0.takeN (i := 2) rfl (j) (show j ≤ b.length by omega) 20 rfl
 have hcap22 := (m0.rd (i := 2) rfl).ns_out.cap; clear m0
 refine gz hK1 Hz (.c rfl (fun _ h => y_sliceHn h (j) rfl rfl U22 fct7 rfl (Nat.le_trans (show j ≤ b.length by omega) hcap22.1)) <| .assign rfl <| .nil) fun Az Hz => ?_
 replace Hz := Hz.oz [0, 1, 4, 5]
 refine zsr fun K2 hK2 => ?_
 refine goCh Hz (.move rfl <| .move rfl <| .nilCheck rfl <| .fa 0 rfl U101 <| .lb m22 1 U22 rfl rfl rfl <| .move rfl .nil) fun Az Hz => ?_
 have m39 := m22.dropN (i := 2) rfl (j) (show j ≤ b.length by omega) 21 rfl
 refine goCh Hz (.c rfl (fun _ h => y_sliceLn h (j) rfl rfl U22 fct7 rfl (show j ≤ b.length by omega)) <| .nilCheck rfl <| .fa 0 rfl U101 .nil) fun Az Hz => ?_
 refine plz (st1 Hz m39 1 fct8 fun w43 m43 _ => ?_)
 refine znl (hK2 _ _ ?_)
 replace Hz := Hz.oz [4, 5]
 refine regS Hz (.move rfl <| .assign rfl .nil) fun Az Hz => ?_
 refine rt1 Hz ?_
 have e2 : b.length - j = (b.drop j).length := (List.length_drop).symm
 rw [e2] at m43
 exact ⟨_, _, _, _, rfl, m43.ren [(1, 1), (2, 21), (3, 20)] (by decide)⟩
theorem skip_no (X : Cx) (B : Nat) (b : List Int) (er : Int) (j : Nat) (p : Option Addr) (c : Nat) (w0 : World) (hj : b.length < j) (m0 : MemOk X w0 [(1, .box B 101 [.slice p (b).length c, .int .i64 er]), (2, .dat (.slice p (b).length c) (.ns .u8 (b)))] w0) :
   Calls Tryd.prog 46 #[.pointer (some ⟨B, 0, none⟩), .int .i64 (j : Int)] w0 fun e w' => e = .returned (.slice none 0 0) ∧ MemOk X w0 [(1, .box B 101 [.slice none (([] : List Int)).length 0, .int .i64 21]), (2, .dat (.slice none (([] : List Int)).length 0) (.ns .u8 (([] : List Int))))] w' := by
 refine ent2 Tryd.func46 rfl Tryd.ntmps46 fun Az Hz => ?_
 refine regS Hz (.assign rfl .nil) fun Az Hz => ?_
 refine wsk fun K0 hK0 => ?_
 refine regS Hz (.move rfl <| .move rfl <| .nilCheck rfl <| .fa 0 rfl U101 <| .lb m0 1 U22 rfl rfl rfl <| .len rfl U22 <| .gtr rfl rfl .nil) fun Az Hz => ?_
 refine bc Hz 12 ?_ ?_
 rotate_left
 · intro hb _; exact absurd hb (by simp; omega)
 clear Hz; intro _ Hz
 refine wct Hz ?_
 replace Hz := Hz.oz [0, 1, 4]
 refine zsr fun K1 hK1 => ?_
 refine goCh Hz (.move rfl <| .move rfl <| .nilCheck rfl <| .fa 0 rfl U101 .nil) fun Az Hz => ?_
 refine plz (st1 Hz m0 1 fct8 fun w19 m19 _ => ?_)
 refine goCh Hz (.nilCheck rfl <| .fa 1 rfl U101 .nil) fun Az Hz => ?_
 refine plz (st1 Hz m19 1 fct0 fun w22 m22 _ => ?_)
 refine znl (hK1 _ _ ?_)
 replace Hz := Hz.oz [0, 1, 4]
 refine regS Hz (.assign rfl .nil) fun Az Hz => ?_
 refine rt1 Hz ?_
 have m25 := m22.dat 90 rfl (Rd.nilN _ _ .u8 none)
 exact ⟨rfl, m25.ren [(1, 1), (2, 90)] (by decide)⟩
end Go.Proofs.YtcccomafnmdlfaaDoor.K
