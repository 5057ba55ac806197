/- stream: the head that bytes begin with. -/
import Derived.Test.YtogjhjiapinmcaaDoorStr5
namespace Go.Proofs.YtogjhjiapinmcaaDoor.K
open Go.ChangeShapes Go.WideShapes Go.ChangeAt Go.RowKit
set_option linter.unusedVariables false
set_option linter.unusedSimpArgs false

set_option maxRecDepth 100000
set_option maxHeartbeats 4000000
theorem numR_all {b y : List Int} {er mx a er2 : Int} (hN : numR b er mx = (a, y, er2)) (hbb : BytesL b) (hb : b.length ≤ 1000000) (h0 : 0 ≤ mx) : (0 ≤ a ∧ a ≤ mx) ∧ y.length ≤ b.length ∧ y.length ≤ 1000000 ∧ BytesL y ∧ ∃ k, k ≤ b.length ∧ y = b.drop k := by
 have h1 := numR_le b er mx h0
 have h2 := numR_len b er mx
 have h3 := numR_sub b er mx
 have h4 := numR_suf b er mx
 rw [hN] at h1 h2 h3 h4
 exact ⟨h1, h2, Nat.le_trans h2 hb, fun x hx => hbb x (h3 x hx), h4⟩
theorem pleft_x (X : Cx) (B : Nat) (b : List Int) (er : Int) (p : Option Addr) (c : Nat) (w0 : World) (m0 : MemOk X w0 [(1, .box B 102 [.slice p (b).length c, .int .i64 er]), (2, .dat (.slice p (b).length c) (.ns .u8 (b)))] w0) :
   Calls Tryd.prog 47 #[.pointer (some ⟨B, 0, none⟩)] w0 fun e w' => e = .returned (.int .i64 (b.length : Int)) ∧ MemOk X w0 [(1, .box B 102 [.slice p (b).length c, .int .i64 er]), (2, .dat (.slice p (b).length c) (.ns .u8 (b)))] w' := by
 refine enter (fn := Tryd.f47) Tryd.func47 rfl Tryd.ntmps47 rfl (fun Az Hz => ?_)
 simp only [List.zipIdx_cons, List.zipIdx_nil, List.map_cons, List.map_nil, Nat.reduceAdd, Nat.zero_add] at Hz
 refine regS Hz (.assign rfl <| .nil) ?_
 clear Hz Az; intro Az Hz
 refine regS Hz (.move rfl <| .nilCheck rfl <| .fieldAddr (off := 0) rfl Tryd.underlying102 rfl (s := 1) (by kernel_rfl) rfl <| .fieldAddr (off := 0) rfl Tryd.underlying100 rfl (s := 0) (by kernel_rfl) rfl <| .loadB1 m0 (i := 1) rfl rfl rfl Tryd.underlying24 rfl <| .len rfl Tryd.underlying24 <| .assign rfl <| .nil) ?_
 clear Hz Az; intro Az Hz
 refine wp_ret ?_
 try dsimp only [Exit.then, Exit.inBlock]
 refine (ret1 (fn := Tryd.f47) Hz rfl rfl ?_)
 exact ⟨rfl, m0.only [1, 2]⟩
theorem perr_x (X : Cx) (B : Nat) (b : List Int) (er : Int) (p : Option Addr) (c : Nat) (w0 : World) (m0 : MemOk X w0 [(1, .box B 102 [.slice p (b).length c, .int .i64 er]), (2, .dat (.slice p (b).length c) (.ns .u8 (b)))] w0) :
   Calls Tryd.prog 46 #[.pointer (some ⟨B, 0, none⟩)] w0 fun e w' => e = .returned (.int .i64 er) ∧ MemOk X w0 [(1, .box B 102 [.slice p (b).length c, .int .i64 er]), (2, .dat (.slice p (b).length c) (.ns .u8 (b)))] w' := by
 refine enter (fn := Tryd.f46) Tryd.func46 rfl Tryd.ntmps46 rfl (fun Az Hz => ?_)
 simp only [List.zipIdx_cons, List.zipIdx_nil, List.map_cons, List.map_nil, Nat.reduceAdd, Nat.zero_add] at Hz
 refine regS Hz (.assign rfl <| .nil) ?_
 clear Hz Az; intro Az Hz
 refine regS Hz (.move rfl <| .nilCheck rfl <| .fieldAddr (off := 0) rfl Tryd.underlying102 rfl (s := 1) (by kernel_rfl) rfl <| .fieldAddr (off := 1) rfl Tryd.underlying100 rfl (s := 0) (by kernel_rfl) rfl <| .loadB1 m0 (i := 1) rfl rfl rfl Tryd.underlying33 rfl <| .assign rfl <| .nil) ?_
 clear Hz Az; intro Az Hz
 refine wp_ret ?_
 try dsimp only [Exit.then, Exit.inBlock]
 refine (ret1 (fn := Tryd.f46) Hz rfl rfl ?_)
 exact ⟨rfl, m0.only [1, 2]⟩
theorem pnum_e {b y : List Int} {er mx a er2 : Int} (hN : numR b er mx = (a, y, er2)) (X : Cx) (B : Nat) (p : Option Addr) (c : Nat) (w0 : World) (hb : b.length ≤ 1000000) (hbb : BytesL b) (m0 : MemOk X w0 [(1, .box B 102 [.slice p (b).length c, .int .i64 er]), (2, .dat (.slice p (b).length c) (.ns .u8 (b)))] w0) :
   Calls Tryd.prog 45 #[.pointer (some ⟨B, 0, none⟩), .int .u64 mx] w0 fun e w' => ∃ (p' : Option Addr) (c' : Nat), e = .returned (.int .u64 a) ∧ MemOk X w0 [(1, .box B 102 [.slice p' (y).length c', .int .i64 er2]), (2, .dat (.slice p' (y).length c') (.ns .u8 (y)))] w' := by
 have h := pnum_x X B b er mx p c w0 hb hbb m0
 rw [hN] at h
 exact h
end Go.Proofs.YtogjhjiapinmcaaDoor.K
