/- raft: Role, Term, Lead, Commit; run, heed, taken. -/
import Derived.Test.YtndnnlbdnjndiaaGreatRafM
namespace Go.Proofs.YtndnnlbdnjndiaaGreat.K
open Go.ChangeShapes Go.WideShapes Go.ChangeAt Go.RowKit
set_option linter.unusedVariables false
set_option linter.unusedSimpArgs false





theorem inf3rru : (Tryz.prog.info? 3).map (fun i => (i.zero, i.size, i.bytes)) = some (some (.int .i64 0), 1, 8) := by kernel_rfl
theorem sz3rru : (Tryz.prog.info? 3).map (·.size) = some 1 := by kernel_rfl
theorem sz26rru : (Tryz.prog.info? 26).map (·.size) = some 1 := by kernel_rfl
theorem fl46rta : flatS Tryz.prog 46 [.slice none 0 0, .slice none 0 0, .bool false] = true := by kernel_rfl
theorem sz46rta : (Tryz.prog.info? 46).map (·.size) = some 3 := by kernel_rfl
theorem zc46rta : ((Tryz.prog.info? 46).bind (·.zero)).map (·.cells.toList) = some [.slice none 0 0, .slice none 0 0, .bool false] := by kernel_rfl

set_option maxRecDepth 100000
set_option maxHeartbeats 4000000
theorem rrole_x (X : Cx) (R L : Nat) (x : RV) (py pm pq : Option Addr) (ny nm nq cy cm cq : Nat) (re : Bool) (w0 : World) (m0 : MemOk X w0 [(1, .box R 86 (raC x L (.slice py ny cy) (.slice pm nm cm) (.slice pq nq cq) re))] w0) :
   Calls Tryz.prog 29 #[.pointer (some ⟨R, 0, none⟩)] w0 fun e w' => e = .returned (.int .i64 x.ro) ∧ MemOk X w0 [(1, .box R 86 (raC x L (.slice py ny cy) (.slice pm nm cm) (.slice pq nq cq) re))] w' := by
 refine enter (fn := Tryz.f29) Tryz.func29 rfl Tryz.ntmps29 rfl (fun Az Hz => ?_)
 simp only [List.zipIdx_cons, List.zipIdx_nil, List.map_cons, List.map_nil, Nat.reduceAdd, Nat.zero_add] at Hz
 refine regS Hz (.assign rfl <| .nil) ?_
 clear Hz Az; intro Az Hz
 refine regS Hz (.move rfl <| .nilCheck rfl <| .fieldAddr (off := 20) rfl Tryz.underlying86 rfl (s := 0) (by kernel_rfl) rfl <| .loadB1 m0 (i := 1) rfl rfl rfl Tryz.underlying3 rfl <| .assign rfl <| .nil) ?_
 clear Hz Az; intro Az Hz
 refine wp_ret ?_
 try dsimp only [Exit.then, Exit.inBlock]
 refine (ret1 (fn := Tryz.f29) Hz rfl rfl ?_)
 exact ⟨rfl, m0.only [1]⟩
theorem rterm_x (X : Cx) (R L : Nat) (x : RV) (py pm pq : Option Addr) (ny nm nq cy cm cq : Nat) (re : Bool) (w0 : World) (m0 : MemOk X w0 [(1, .box R 86 (raC x L (.slice py ny cy) (.slice pm nm cm) (.slice pq nq cq) re))] w0) :
   Calls Tryz.prog 30 #[.pointer (some ⟨R, 0, none⟩)] w0 fun e w' => e = .returned (.int .i64 x.te) ∧ MemOk X w0 [(1, .box R 86 (raC x L (.slice py ny cy) (.slice pm nm cm) (.slice pq nq cq) re))] w' := by
 refine enter (fn := Tryz.f30) Tryz.func30 rfl Tryz.ntmps30 rfl (fun Az Hz => ?_)
 simp only [List.zipIdx_cons, List.zipIdx_nil, List.map_cons, List.map_nil, Nat.reduceAdd, Nat.zero_add] at Hz
 refine regS Hz (.assign rfl <| .nil) ?_
 clear Hz Az; intro Az Hz
 refine regS Hz (.move rfl <| .nilCheck rfl <| .fieldAddr (off := 0) rfl Tryz.underlying86 rfl (s := 4) (by kernel_rfl) rfl <| .fieldAddr (off := 2) rfl Tryz.underlying81 rfl (s := 1) (by kernel_rfl) rfl <| .fieldAddr (off := 2) rfl Tryz.underlying25 rfl (s := 0) (by kernel_rfl) rfl <| .loadB1 m0 (i := 1) rfl rfl rfl Tryz.underlying3 rfl <| .assign rfl <| .nil) ?_
 clear Hz Az; intro Az Hz
 refine wp_ret ?_
 try dsimp only [Exit.then, Exit.inBlock]
 refine (ret1 (fn := Tryz.f30) Hz rfl rfl ?_)
 exact ⟨rfl, m0.only [1]⟩
theorem rlead_x (X : Cx) (R L : Nat) (x : RV) (py pm pq : Option Addr) (ny nm nq cy cm cq : Nat) (re : Bool) (w0 : World) (m0 : MemOk X w0 [(1, .box R 86 (raC x L (.slice py ny cy) (.slice pm nm cm) (.slice pq nq cq) re))] w0) :
   Calls Tryz.prog 33 #[.pointer (some ⟨R, 0, none⟩)] w0 fun e w' => e = .returned (.int .i64 x.le) ∧ MemOk X w0 [(1, .box R 86 (raC x L (.slice py ny cy) (.slice pm nm cm) (.slice pq nq cq) re))] w' := by
 refine enter (fn := Tryz.f33) Tryz.func33 rfl Tryz.ntmps33 rfl (fun Az Hz => ?_)
 simp only [List.zipIdx_cons, List.zipIdx_nil, List.map_cons, List.map_nil, Nat.reduceAdd, Nat.zero_add] at Hz
 refine regS Hz (.assign rfl <| .nil) ?_
 clear Hz Az; intro Az Hz
 refine regS Hz (.move rfl <| .nilCheck rfl <| .fieldAddr (off := 21) rfl Tryz.underlying86 rfl (s := 0) (by kernel_rfl) rfl <| .loadB1 m0 (i := 1) rfl rfl rfl Tryz.underlying3 rfl <| .assign rfl <| .nil) ?_
 clear Hz Az; intro Az Hz
 refine wp_ret ?_
 try dsimp only [Exit.then, Exit.inBlock]
 refine (ret1 (fn := Tryz.f33) Hz rfl rfl ?_)
 exact ⟨rfl, m0.only [1]⟩
theorem rcommit_x (X : Cx) (R L : Nat) (x : RV) (py pm pq : Option Addr) (ny nm nq cy cm cq : Nat) (re : Bool) (w0 : World) (m0 : MemOk X w0 [(1, .box R 86 (raC x L (.slice py ny cy) (.slice pm nm cm) (.slice pq nq cq) re))] w0) :
   Calls Tryz.prog 26 #[.pointer (some ⟨R, 0, none⟩)] w0 fun e w' => e = .returned (.int .i64 x.co) ∧ MemOk X w0 [(1, .box R 86 (raC x L (.slice py ny cy) (.slice pm nm cm) (.slice pq nq cq) re))] w' := by
 refine enter (fn := Tryz.f26) Tryz.func26 rfl Tryz.ntmps26 rfl (fun Az Hz => ?_)
 simp only [List.zipIdx_cons, List.zipIdx_nil, List.map_cons, List.map_nil, Nat.reduceAdd, Nat.zero_add] at Hz
 refine regS Hz (.assign rfl <| .nil) ?_
 clear Hz Az; intro Az Hz
 refine regS Hz (.move rfl <| .nilCheck rfl <| .fieldAddr (off := 22) rfl Tryz.underlying86 rfl (s := 0) (by kernel_rfl) rfl <| .loadB1 m0 (i := 1) rfl rfl rfl Tryz.underlying3 rfl <| .assign rfl <| .nil) ?_
 clear Hz Az; intro Az Hz
 refine wp_ret ?_
 try dsimp only [Exit.then, Exit.inBlock]
 refine (ret1 (fn := Tryz.f26) Hz rfl rfl ?_)
 exact ⟨rfl, m0.only [1]⟩
theorem rrun_x (X : Cx) (R L : Nat) (x : RV) (py pm pq : Option Addr) (ny nm nq cy cm cq : Nat) (re : Bool) (w0 : World) (ro : Int) (m0 : MemOk X w0 [(1, .box R 86 (raC x L (.slice py ny cy) (.slice pm nm cm) (.slice pq nq cq) re))] w0) :
   Calls Tryz.prog 89 #[.pointer (some ⟨R, 0, none⟩), .int .i64 ro] w0 fun e w' => ∃ (p6 : Option Addr) (c6 : Nat), e = .returned (.tuple #[]) ∧ MemOk X w0 [(1, .box R 86 (raC { x with ro := ro, le := -1 } L (.slice p6 1 c6) (.slice pm nm cm) (.slice pq nq cq) re)), (6, .num (.slice p6 1 c6) 3 .i64 [x.id])] w' := by
 refine enter (fn := Tryz.f89) Tryz.func89 rfl Tryz.ntmps89 rfl (fun Az Hz => ?_)
 simp only [List.zipIdx_cons, List.zipIdx_nil, List.map_cons, List.map_nil, Nat.reduceAdd, Nat.zero_add] at Hz
 refine wp_region_lit ?_
 refine goCh Hz (.move rfl <| .move rfl <| .move rfl <| .move rfl <| .move rfl <| .nilCheck rfl <| .fieldAddr (off := 0) rfl Tryz.underlying86 rfl (s := 4) (by kernel_rfl) rfl <| .fieldAddr (off := 0) rfl Tryz.underlying81 rfl (s := 0) (by kernel_rfl) rfl <| .loadB1 m0 (i := 1) rfl rfl rfl Tryz.underlying3 rfl <| .nil) ?_
 clear Hz Az; intro Az Hz
 refine wpList_plain rfl (fun K hK => ?_)
 refine e_litN Hz m0 30 (k := .i64) rfl rfl Tryz.underlying26 inf3rru rfl rfl rfl rfl ?_
 clear Hz Az m0; intro g10 Az w11 Hz m11
 refine hK _ _ ?_; clear hK K
 refine goCh Hz (.nilCheck rfl <| .fieldAddr (off := 20) rfl Tryz.underlying86 rfl (s := 0) (by kernel_rfl) rfl <| .nil) ?_
 clear Hz Az; intro Az Hz
 refine wpList_plain rfl (fun K hK => ?_)
 refine e_store1 Hz m11 1 rfl rfl rfl rfl rfl sz3rru (by dsimp only [List.set] <;> rfl) ?_
 clear m11; intro w14 m14 hB14
 clear hB14
 refine hK _ _ ?_; clear hK K
 refine goCh Hz (.nilCheck rfl <| .fieldAddr (off := 21) rfl Tryz.underlying86 rfl (s := 0) (by kernel_rfl) rfl <| .nil) ?_
 clear Hz Az; intro Az Hz
 refine wpList_plain rfl (fun K hK => ?_)
 refine e_store1 Hz m14 1 rfl rfl rfl rfl rfl sz3rru (by dsimp only [List.set] <;> rfl) ?_
 clear m14; intro w17 m17 hB17
 clear hB17
 refine hK _ _ ?_; clear hK K
 refine goCh Hz (.nilCheck rfl <| .fieldAddr (off := 25) rfl Tryz.underlying86 rfl (s := 0) (by kernel_rfl) rfl <| .nil) ?_
 clear Hz Az; intro Az Hz
 refine wpList_plain rfl (fun K hK => ?_)
 refine e_store1 Hz m17 1 rfl rfl rfl rfl rfl sz26rru (by dsimp only [List.set] <;> rfl) ?_
 clear m17; intro w20 m20 hB20
 clear hB20
 refine hK _ _ ?_; clear hK K
 refine wpList_nil ?_
 try dsimp only [Exit.then]
 try refine out_here ?_
 refine (ret0 (fn := Tryz.f89) Hz rfl ?_)
 exact ⟨_, _, rfl, m20.ren [(1, 1), (6, 30)] (by decide)⟩
theorem rtaken_x (X : Cx) (R L : Nat) (x : RV) (py pm pq : Option Addr) (ny nm nq cy cm cq : Nat) (re : Bool) (w0 : World) (m0 : MemOk X w0 [(1, .box R 86 (raC x L (.slice py ny cy) (.slice pm nm cm) (.slice pq nq cq) re))] w0) :
   Calls Tryz.prog 47 #[.pointer (some ⟨R, 0, none⟩)] w0 fun e w' => e = .returned (.agg #[.slice pm nm cm, .slice pq nq cq, .bool re]) ∧ MemOk X w0 [(1, .box R 86 (raC x L (.slice py ny cy) (.slice none 0 0) (.slice none 0 0) false))] w' := by
 refine enter (fn := Tryz.f47) Tryz.func47 rfl Tryz.ntmps47 rfl (fun Az Hz => ?_)
 simp only [List.zipIdx_cons, List.zipIdx_nil, List.map_cons, List.map_nil, Nat.reduceAdd, Nat.zero_add] at Hz
 refine wp_seq_k (fun K0 hK0 => ?_)
 refine wp_region_lit ?_
 refine wpList_plain rfl (fun K hK => ?_)
 refine e_alloc Hz m0 30 zc46rta rfl ?_
 clear Hz Az m0; intro g1 Az w2 Hz m2 hB2 hg2
 clear hB2 hg2
 refine hK _ _ ?_; clear hK K
 refine wpList_nil ?_
 refine hK0 _ _ ?_; clear hK0; try clear K0
 refine wp_seq_k (fun K1 hK1 => ?_)
 refine wp_region_lit ?_
 refine goCh Hz (.move rfl <| .nilCheck rfl <| .fieldAddr (off := 26) rfl Tryz.underlying86 rfl (s := 2) (by kernel_rfl) rfl <| .loadBR m2 (i := 1) rfl rfl Tryz.underlying46 rfl sz46rta (by simp) (by dsimp only [List.drop, List.take] <;> rfl) <| .nil) ?_
 clear Hz Az; intro Az Hz
 refine wpList_plain rfl (fun K hK => ?_)
 refine e_alloc Hz m2 31 zc46rta rfl ?_
 clear Hz Az m2; intro g11 Az w12 Hz m12 hB12 hg12
 clear hB12 hg12
 refine hK _ _ ?_; clear hK K
 refine wpList_plain rfl (fun K hK => ?_)
 refine e_storeW Hz m12 31 rfl rfl rfl rfl rfl sz46rta ?_
 clear m12; intro w13 m13 hB13
 clear hB13
 refine hK _ _ ?_; clear hK K
 refine wpList_nil ?_
 refine hK1 _ _ ?_; clear hK1; try clear K1
 refine wp_seq_k (fun K2 hK2 => ?_)
 refine wp_region_lit ?_
 refine goCh Hz (.move rfl <| .build rfl zc46rta fl46rta rfl (by dsimp only [setL, List.set] <;> rfl) <| .nilCheck rfl <| .fieldAddr (off := 26) rfl Tryz.underlying86 rfl (s := 2) (by kernel_rfl) rfl <| .nil) ?_
 clear Hz Az; intro Az Hz
 refine wpList_plain rfl (fun K hK => ?_)
 refine e_storeR Hz m13 1 rfl rfl rfl rfl rfl sz46rta (by dsimp only [List.take, List.drop, List.append_eq, List.append] <;> rfl) ?_
 clear m13; intro w22 m22 hB22
 clear hB22
 refine hK _ _ ?_; clear hK K
 refine wpList_nil ?_
 refine hK2 _ _ ?_; clear hK2; try clear K2
 replace Hz : Has 13 [(2, _), (3, _)] Az := Hz.only [2, 3]
 refine wp_seq_k (fun K3 hK3 => ?_)
 refine wp_region_lit ?_
 refine goCh Hz (.loadBR m22 (i := 31) rfl rfl Tryz.underlying46 rfl sz46rta (by simp) (by dsimp only [List.drop, List.take] <;> rfl) .nil) ?_
 clear Hz Az; intro Az Hz
 refine wpList_plain rfl (fun K hK => ?_)
 refine e_storeW Hz m22 30 rfl rfl rfl rfl rfl sz46rta ?_
 clear m22; intro w26 m26 hB26
 clear hB26
 refine hK _ _ ?_; clear hK K
 refine wpList_nil ?_
 refine hK3 _ _ ?_; clear hK3; try clear K3
 refine wp_ret ?_
 try dsimp only [Exit.then, Exit.inBlock]
 refine (retC (fn := Tryz.f47) Hz m26 (i := 30) rfl rfl rfl Tryz.underlying46 rfl sz46rta ?_)
 exact ⟨rfl, m26.only [1]⟩
end Go.Proofs.YtndnnlbdnjndiaaGreat.K
