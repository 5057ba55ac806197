/- chunk: the reference's New; Changed of a history, of a chunk. -/
import Derived.Test.YteglmahnkfgelaaGreatChu4
import Derived.Test.YteglmahnkfgelaaGreatChzM
namespace Go.Proofs.YteglmahnkfgelaaGreat.K
open Go.ChangeShapes Go.WideShapes Go.ChangeAt Go.RowKit
set_option linter.unusedVariables false
set_option linter.unusedSimpArgs false
theorem fl39znw : flatS Tryz.prog 39 [.int .i64 0, .int .i64 0, .int .i64 0, .int .i64 0, .int .i64 0, .int .i64 0, .slice none 0 0] = true := by kernel_rfl
set_option maxRecDepth 100000
set_option maxHeartbeats 4000000
theorem znew_x (X : Cx) (vo ch sz fr to fl : Int) (n9 : Nat) (pw : Option Addr) (nw cw : Nat) (w0 : World) (hn : n9 ≤ 256) (m0 : MemOk X w0 [] w0) :
   Calls Tryz.prog 22 #[.agg #[.int .i64 vo, .int .i64 ch, .int .i64 n9, .int .i64 sz, .int .i64 fr, .int .i64 to, .int .i64 fl, .slice pw nw cw]] w0 fun e w' => ∃ (p9 : Option Addr) (c9 : Nat), e = .returned (.agg #[.int .i64 vo, .int .i64 ch, .int .i64 n9, .int .i64 sz, .int .i64 0, .int .i64 0, .slice p9 n9 c9]) ∧ MemOk X w0 [(9, .row (.slice p9 n9 c9) 94 1 ((List.replicate n9 ([] : List Ver)).map hD))] w' := by
 refine ent1 Tryz.func22 rfl Tryz.ntmps22 fun Az Hz => ?_
 refine zsr fun K0 hK0 => ?_
 refine plz (e_box Hz m0 20 (cs := [_, _, _, _, _, _, _, _]) rfl rfl rfl fun g1 Az w2 Hz m2 _ _ => ?_)
 refine plz (e_alloc Hz m2 21 fct6 rfl fun g3 Az w4 Hz m4 _ _ => ?_)
 refine znl (hK0 _ _ ?_)
 refine wsk fun K1 hK1 => ?_
 have m5 := m4.oz [20, 21]
 refine region_p 14 (B := [(20, _), (21, _)]) (m5.to ⟨il, il, trivial⟩) m5 (by kernel_rfl) (fun w6 hP6 m6 => ?_); clear m5
 refine goR hP6 [0, 1, 2, 3, 4, 5, 6, 7, 8, 9, 10, 11] [1, 3, 5, 7, 9] 12 0 4095 Hz (m6.to ⟨il, il, trivial⟩) (.fa 0 rfl U25 <| .lb hh 20 U3 rfl rfl rfl <| .fa 1 rfl U25 <| .lb hh 20 U3 rfl rfl rfl <| .fa 2 rfl U25 <| .lb hh 20 U3 rfl rfl rfl <| .fa 3 rfl U25 <| .lb hh 20 U3 rfl rfl rfl <| .fa 2 rfl U25 <| .lb hh 20 U3 rfl rfl rfl <| .p (fun _ _ h_ => y_max h_ rfl rfl (r := (n9 : Int)) (by omega)) <| .p (fun _ _ h_ => y_min h_ rfl rfl (r := (n9 : Int)) (by omega)) .nil) fun Az Hz => ?_
 refine so 12 ?_
 refine e_makeR Hz m6 22 (n9) 2 rfl rfl rfl rfl U37 fct3 (by decide) (by omega) rfl fun p19 c19 Az w20 Hz m20 => ?_
 refine ⟨m20.to ⟨il, il, trivial⟩, ?_⟩
 refine goA hP6 [13] 1 8191 16383 Hz (m20.to ⟨il, il, trivial⟩) (.build rfl fct6 fl39znw rfl (by dsimp only [setL, List.set] <;> rfl) .nil) fun Az Hz => ?_
 refine se 14 ?_
 refine stw Hz m20 21 fct5 fun w22 m22 _ => ?_
 refine wpAnyE_done (by kernel_rfl) ?_ _
 refine hK1 _ _ ?_
 refine rtd (retC (fn := Tryz.f22) Hz m22 (i := 21) rfl rfl rfl U39 rfl fct5 ?_)
 have hE : List.replicate n9 [D.l 2 []] = (List.replicate n9 ([] : List Ver)).map hD := by rw [List.map_replicate]; rfl
 rw [hE] at m22
 exact ⟨_, _, rfl, m22.ren [(9, 22)] (by decide)⟩
end Go.Proofs.YteglmahnkfgelaaGreat.K
