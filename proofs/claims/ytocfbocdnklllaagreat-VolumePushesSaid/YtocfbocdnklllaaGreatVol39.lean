/- volume: the reference's Count, Push, State; SamePush; Push that is refused. -/
import Derived.Test.YtocfbocdnklllaaGreatVolSm
namespace Go.Proofs.YtocfbocdnklllaaGreat.K
open Go.ChangeShapes Go.WideShapes Go.ChangeAt Go.RowKit
set_option linter.unusedVariables false
set_option linter.unusedSimpArgs false



theorem fl32pN : flatS Tryz.prog 32 [.int .i64 0, .int .i64 0, .int .i64 0, .int .i64 0, .int .i64 0, .int .i64 0, .int .i64 0, .slice none 0 0] = true := by kernel_rfl
theorem sz28pN : (Tryz.prog.info? 28).map (·.size) = some 11 := by kernel_rfl
theorem sz32pN : (Tryz.prog.info? 32).map (·.size) = some 8 := by kernel_rfl
theorem zc32pN : ((Tryz.prog.info? 32).bind (·.zero)).map (·.cells.toList) = some [.int .i64 0, .int .i64 0, .int .i64 0, .int .i64 0, .int .i64 0, .int .i64 0, .int .i64 0, .slice none 0 0] := by kernel_rfl
theorem fl32pM : flatS Tryz.prog 32 [.int .i64 0, .int .i64 0, .int .i64 0, .int .i64 0, .int .i64 0, .int .i64 0, .int .i64 0, .slice none 0 0] = true := by kernel_rfl
theorem sz28pM : (Tryz.prog.info? 28).map (·.size) = some 11 := by kernel_rfl
theorem sz32pM : (Tryz.prog.info? 32).map (·.size) = some 8 := by kernel_rfl
theorem zc32pM : ((Tryz.prog.info? 32).bind (·.zero)).map (·.cells.toList) = some [.int .i64 0, .int .i64 0, .int .i64 0, .int .i64 0, .int .i64 0, .int .i64 0, .int .i64 0, .slice none 0 0] := by kernel_rfl
theorem fl32rpu : flatS Tryz.prog 32 [.int .i64 0, .int .i64 0, .int .i64 0, .int .i64 0, .int .i64 0, .int .i64 0, .int .i64 0, .slice none 0 0] = true := by kernel_rfl
theorem fl56rpu : flatS Tryz.prog 56 [.int .i64 0, .slice none 0 0] = true := by kernel_rfl
theorem fl58rpu : flatS Tryz.prog 58 [.int .i64 0, .slice none 0 0] = true := by kernel_rfl
theorem inf56rpu : (Tryz.prog.info? 56).map (fun i => (i.zero, i.size, i.bytes)) = some (some (.agg #[.int .i64 0, .slice none 0 0]), 2, 32) := by kernel_rfl
theorem inf58rpu : (Tryz.prog.info? 58).map (fun i => (i.zero, i.size, i.bytes)) = some (some (.agg #[.int .i64 0, .slice none 0 0]), 2, 32) := by kernel_rfl
theorem sz2rpu : (Tryz.prog.info? 2).map (·.size) = some 1 := by kernel_rfl
theorem sz26rpu : (Tryz.prog.info? 26).map (·.size) = some 1 := by kernel_rfl
theorem sz28rpu : (Tryz.prog.info? 28).map (·.size) = some 11 := by kernel_rfl
theorem sz32rpu : (Tryz.prog.info? 32).map (·.size) = some 8 := by kernel_rfl
theorem sz56rpu : (Tryz.prog.info? 56).map (·.size) = some 2 := by kernel_rfl
theorem sz58rpu : (Tryz.prog.info? 58).map (·.size) = some 2 := by kernel_rfl
theorem zc32rpu : ((Tryz.prog.info? 32).bind (·.zero)).map (·.cells.toList) = some [.int .i64 0, .int .i64 0, .int .i64 0, .int .i64 0, .int .i64 0, .int .i64 0, .int .i64 0, .slice none 0 0] := by kernel_rfl
theorem zc56rpu : ((Tryz.prog.info? 56).bind (·.zero)).map (·.cells.toList) = some [.int .i64 0, .slice none 0 0] := by kernel_rfl
theorem zc58rpu : ((Tryz.prog.info? 58).bind (·.zero)).map (·.cells.toList) = some [.int .i64 0, .slice none 0 0] := by kernel_rfl

theorem sz28qF : (Tryz.prog.info? 28).map (·.size) = some 11 := by kernel_rfl
theorem inf5rst : (Tryz.prog.info? 5).map (fun i => (i.zero, i.size, i.bytes)) = some (some (.int .u8 0), 1, 1) := by kernel_rfl
theorem inf22rst : (Tryz.prog.info? 22).map (fun i => (i.zero, i.size, i.bytes)) = some (some (.slice none 0 0), 1, 24) := by kernel_rfl
theorem sz22rst : (Tryz.prog.info? 22).map (·.size) = some 1 := by kernel_rfl
theorem sz28rst : (Tryz.prog.info? 28).map (·.size) = some 11 := by kernel_rfl
theorem sz56rst : (Tryz.prog.info? 56).map (·.size) = some 2 := by kernel_rfl
theorem sz58rst : (Tryz.prog.info? 58).map (·.size) = some 2 := by kernel_rfl
theorem zc58rst : ((Tryz.prog.info? 58).bind (·.zero)).map (·.cells.toList) = some [.int .i64 0, .slice none 0 0] := by kernel_rfl

theorem fl32pQ : flatS Tryz.prog 32 [.int .i64 0, .int .i64 0, .int .i64 0, .int .i64 0, .int .i64 0, .int .i64 0, .int .i64 0, .slice none 0 0] = true := by kernel_rfl
theorem sz28pQ : (Tryz.prog.info? 28).map (·.size) = some 11 := by kernel_rfl
theorem sz32pQ : (Tryz.prog.info? 32).map (·.size) = some 8 := by kernel_rfl
theorem zc32pQ : ((Tryz.prog.info? 32).bind (·.zero)).map (·.cells.toList) = some [.int .i64 0, .int .i64 0, .int .i64 0, .int .i64 0, .int .i64 0, .int .i64 0, .int .i64 0, .slice none 0 0] := by kernel_rfl

set_option maxRecDepth 100000
set_option maxHeartbeats 4000000
theorem rcount_yes (vo bl sz pe to ne fl : Int) (hi : Bool) (pp pn pw : Option Addr) (cp : Nat) (place : List Int) (nn9 cn9 nw cw : Nat) (ch fi cnt : Int) (w0 : World) (hch : 0 ≤ ch ∧ ch < place.length) (hpe : 1 ≤ pe) (hfi : ch * pe = fi) (hfb : 0 ≤ fi ∧ fi ≤ 1000000) (hblb : 0 ≤ bl ∧ bl ≤ 1000000) (hcnt : min pe (bl - fi) = cnt) :
   Calls Tryz.prog 27 #[.agg #[.int .i64 vo, .int .i64 bl, .int .i64 sz, .int .i64 pe, .slice pp place.length cp, .int .i64 to, .int .i64 ne, .bool hi, .int .i64 fl, .slice pn nn9 cn9, .slice pw nw cw], .int .i64 ch] w0 fun e w' => e = .returned (.int .i64 cnt) ∧ Below w0.heap.size w0 w' := by
 refine enter (fn := Tryz.f27) Tryz.func27 rfl Tryz.ntmps27 rfl (fun Az Hz => ?_)
 simp only [List.zipIdx_cons, List.zipIdx_nil, List.map_cons, List.map_nil, Nat.reduceAdd, Nat.zero_add] at Hz
 have m0 := MemOk.start (fun _ => False) w0
 refine wp_seq_k (fun K0 hK0 => ?_)
 refine wp_region_lit ?_
 refine wpList_plain rfl (fun K hK => ?_)
 refine e_box Hz m0 20 (cs := [_, _, _, _, _, _, _, _, _, _, _]) rfl rfl rfl ?_
 clear Hz Az m0; intro g1 Az w2 Hz m2 hB2 hg2
 clear hB2 hg2
 refine hK _ _ ?_; clear hK K
 refine goCh Hz (.assign rfl .nil) ?_
 clear Hz Az; intro Az Hz
 refine wpList_nil ?_
 refine hK0 _ _ ?_; clear hK0; try clear K0
 refine wp_seq_k (fun K1 hK1 => ?_)
 refine wp_seq_k (fun K2 hK2 => ?_)
 refine wp_region_lit ?_
 refine goCh Hz (.move rfl <| .lss rfl rfl <| .move rfl <| .nil) ?_
 clear Hz Az; intro Az Hz
 refine bool_cases Hz (t := 7) rfl ?_ ?_
 · intro hb _; exact absurd hb (by simp; omega)
 clear Hz; intro _ Hz
 refine goCh Hz (.moveZ rfl <| .fieldAddrZ (off := 4) rfl Tryz.underlying28 rfl (s := 0) (by kernel_rfl) rfl <| .loadB1Z m2 (i := 20) rfl rfl rfl Tryz.underlying24 rfl <| .lenZ rfl Tryz.underlying24 <| .geqZ rfl rfl <| .pickF rfl rfl <| .move rfl <| .nil) ?_
 clear Hz Az; intro Az Hz
 refine bool_cases Hz (t := 14) rfl ?_ ?_
 · intro hb _; exact absurd hb (by simp; omega)
 clear Hz; intro _ Hz
 refine goCh Hz (.fieldAddrZ (off := 3) rfl Tryz.underlying28 rfl (s := 0) (by kernel_rfl) rfl <| .loadB1Z m2 (i := 20) rfl rfl rfl Tryz.underlying3 rfl <| .lssZ rfl rfl <| .pickF rfl rfl <| .nil) ?_
 clear Hz Az; intro Az Hz
 refine wpList_nil ?_
 refine hK2 _ _ ?_; clear hK2; try clear K2
 refine bool_cases Hz (t := 18) rfl ?_ ?_
 · intro hb _; exact absurd hb (by simp; omega)
 clear Hz; intro _ Hz
 refine wp_cond_false (Hz.ev (x := .tmp 18) rfl) ?_
 refine wp_skip ?_
 refine hK1 _ _ ?_; clear hK1; try clear K1
 replace Hz : Has 29 [(1, _), (2, _), (4, _)] Az := Hz.only [1, 2, 4]
 refine regS Hz (.fieldAddr (off := 3) rfl Tryz.underlying28 rfl (s := 0) (by kernel_rfl) rfl <| .loadB1 m2 (i := 20) rfl rfl rfl Tryz.underlying3 rfl <| .fieldAddr (off := 1) rfl Tryz.underlying28 rfl (s := 0) (by kernel_rfl) rfl <| .loadB1 m2 (i := 20) rfl rfl rfl Tryz.underlying3 rfl <| .move rfl <| .fieldAddr (off := 3) rfl Tryz.underlying28 rfl (s := 0) (by kernel_rfl) rfl <| .loadB1 m2 (i := 20) rfl rfl rfl Tryz.underlying3 rfl <| .mul rfl rfl (r := fi) (by rw [hfi]; exact IntWalk.i64_in _ (by omega)) <| .sub rfl rfl (r := bl - fi) (IntWalk.i64_in _ (by omega)) <| .c rfl (fun _ h => y_min h rfl rfl (r := cnt) hcnt) <| .assign rfl <| .nil) ?_
 clear Hz Az; intro Az Hz
 refine wp_ret ?_
 try dsimp only [Exit.then, Exit.inBlock]
 refine (ret1 (fn := Tryz.f27) Hz rfl rfl ?_)
 exact ⟨rfl, m2.below⟩
theorem rcount_no (vo bl sz pe to ne fl : Int) (hi : Bool) (pp pn pw : Option Addr) (cp : Nat) (place : List Int) (nn9 cn9 nw cw : Nat) (ch : Int) (w0 : World) (hno : ¬ (0 ≤ ch ∧ ch < place.length)) :
   Calls Tryz.prog 27 #[.agg #[.int .i64 vo, .int .i64 bl, .int .i64 sz, .int .i64 pe, .slice pp place.length cp, .int .i64 to, .int .i64 ne, .bool hi, .int .i64 fl, .slice pn nn9 cn9, .slice pw nw cw], .int .i64 ch] w0 fun e w' => e = .returned (.int .i64 0) ∧ Below w0.heap.size w0 w' := by
 refine enter (fn := Tryz.f27) Tryz.func27 rfl Tryz.ntmps27 rfl (fun Az Hz => ?_)
 simp only [List.zipIdx_cons, List.zipIdx_nil, List.map_cons, List.map_nil, Nat.reduceAdd, Nat.zero_add] at Hz
 have m0 := MemOk.start (fun _ => False) w0
 refine wp_seq_k (fun K0 hK0 => ?_)
 refine wp_region_lit ?_
 refine wpList_plain rfl (fun K hK => ?_)
 refine e_box Hz m0 20 (cs := [_, _, _, _, _, _, _, _, _, _, _]) rfl rfl rfl ?_
 clear Hz Az m0; intro g1 Az w2 Hz m2 hB2 hg2
 clear hB2 hg2
 refine hK _ _ ?_; clear hK K
 refine goCh Hz (.assign rfl .nil) ?_
 clear Hz Az; intro Az Hz
 refine wpList_nil ?_
 refine hK0 _ _ ?_; clear hK0; try clear K0
 refine wp_seq_k (fun K1 hK1 => ?_)
 refine wp_seq_k (fun K2 hK2 => ?_)
 refine wp_region_lit ?_
 refine goCh Hz (.move rfl <| .lss rfl rfl <| .move rfl <| .nil) ?_
 clear Hz Az; intro Az Hz
 refine bool_cases Hz (t := 7) rfl ?_ ?_
 ·
  clear Hz; intro hb10 Hz
  try simp only [Q1x, Q2x, Q3x, Q4x, Q5x, Q6x, Q7x, Q8x, Q9x, Q0x, Qax, Qbx] at hb10
  refine goCh Hz (.sk <| .sk <| .sk <| .sk <| .sk <| .pickT rfl rfl <| .move rfl <| .sk <| .sk <| .sk <| .pickT rfl rfl <| .nil) ?_
  clear Hz Az; intro Az Hz
  refine wpList_nil ?_
  refine hK2 _ _ ?_; clear hK2; try clear K2
  refine wp_cond_true (Hz.ev (x := .tmp 18) rfl) ?_
  replace Hz : Has 29 [(1, _), (2, _), (4, _)] Az := Hz.only [1, 2, 4]
  refine regS Hz (.assign rfl <| .nil) ?_
  clear Hz Az; intro Az Hz
  refine wp_ret ?_
  try dsimp only [Exit.then, Exit.inBlock]
  refine (ret1 (fn := Tryz.f27) Hz rfl rfl ?_)
  exact ⟨rfl, m2.below⟩
 ·
  clear Hz; intro hb10 Hz
  try simp only [Q1x, Q2x, Q3x, Q4x, Q5x, Q6x, Q7x, Q8x, Q9x, Q0x, Qax, Qbx] at hb10
  refine goCh Hz (.moveZ rfl <| .fieldAddrZ (off := 4) rfl Tryz.underlying28 rfl (s := 0) (by kernel_rfl) rfl <| .loadB1Z m2 (i := 20) rfl rfl rfl Tryz.underlying24 rfl <| .lenZ rfl Tryz.underlying24 <| .geqZ rfl rfl <| .pickF rfl rfl <| .move rfl <| .nil) ?_
  clear Hz Az; intro Az Hz
  refine bool_cases Hz (t := 14) rfl ?_ ?_
  rotate_left
  · intro hb _; exact absurd hb (by simp; omega)
  clear Hz; intro _ Hz
  refine goCh Hz (.sk <| .sk <| .sk <| .pickT rfl rfl <| .nil) ?_
  clear Hz Az; intro Az Hz
  refine wpList_nil ?_
  refine hK2 _ _ ?_; clear hK2; try clear K2
  refine wp_cond_true (Hz.ev (x := .tmp 18) rfl) ?_
  replace Hz : Has 29 [(1, _), (2, _), (4, _)] Az := Hz.only [1, 2, 4]
  refine regS Hz (.assign rfl <| .nil) ?_
  clear Hz Az; intro Az Hz
  refine wp_ret ?_
  try dsimp only [Exit.then, Exit.inBlock]
  refine (ret1 (fn := Tryz.f27) Hz rfl rfl ?_)
  exact ⟨rfl, m2.below⟩
theorem rpush_nc (vo bl sz pe to ne fl : Int) (hi : Bool) (pp pn pw : Option Addr) (cp : Nat) (place : List Int) (nn9 cn9 nw cw : Nat) (ch mk : Int) (w0 : World) (hno9 : ¬ (0 ≤ ch ∧ ch < place.length)) :
   Calls Tryz.prog 9 #[.agg #[.int .i64 vo, .int .i64 bl, .int .i64 sz, .int .i64 pe, .slice pp place.length cp, .int .i64 to, .int .i64 ne, .bool hi, .int .i64 fl, .slice pn nn9 cn9, .slice pw nw cw], .int .i64 ch, .int .i64 mk] w0 fun e w' => e = .returned (.tuple #[.agg #[.int .i64 0, .int .i64 0, .int .i64 0, .int .i64 0, .int .i64 0, .int .i64 0, .int .i64 0, .slice none 0 0], .bool false]) ∧ Below w0.heap.size w0 w' := by
 refine enter (fn := Tryz.f9) Tryz.func9 rfl Tryz.ntmps9 rfl (fun Az Hz => ?_)
 simp only [List.zipIdx_cons, List.zipIdx_nil, List.map_cons, List.map_nil, Nat.reduceAdd, Nat.zero_add] at Hz
 have m0 := MemOk.start (fun _ => False) w0
 refine wp_seq_k (fun K0 hK0 => ?_)
 refine wp_region_lit ?_
 refine wpList_plain rfl (fun K hK => ?_)
 refine e_box Hz m0 20 (cs := [_, _, _, _, _, _, _, _, _, _, _]) rfl rfl rfl ?_
 clear Hz Az m0; intro g1 Az w2 Hz m2 hB2 hg2
 clear hB2 hg2
 refine hK _ _ ?_; clear hK K
 refine wpList_plain rfl (fun K hK => ?_)
 refine e_alloc Hz m2 21 zc32pM rfl ?_
 clear Hz Az m2; intro g3 Az w4 Hz m4 hB4 hg4
 clear hB4 hg4
 refine hK _ _ ?_; clear hK K
 refine goCh Hz (.assign rfl .nil) ?_
 clear Hz Az; intro Az Hz
 refine wpList_nil ?_
 refine hK0 _ _ ?_; clear hK0; try clear K0
 refine wp_seq_k (fun K1 hK1 => ?_)
 refine wp_region_lit ?_
 refine goCh Hz (.loadBR m4 (i := 20) rfl rfl Tryz.underlying28 rfl sz28pM (by simp) (by dsimp only [List.drop, List.take] <;> rfl) <| .move rfl <| .nil) ?_
 clear Hz Az; intro Az Hz
 refine wpList_plain rfl (fun K hK => ?_)
 refine e_call Hz Tryz.func27 rfl rfl rfl rfl (rcount_no _ _ _ _ _ _ _ _ _ _ _ _ place _ _ _ _ _ _ (fun h => hno9 h)) ?_
 rintro e w10 ⟨rfl, hb10⟩
 have m11 := m4.later hb10
 clear m4
 clear hb10
 refine ⟨_, rfl, ?_⟩; clear Hz Az; intro Az Hz
 refine hK _ _ ?_; clear hK K
 refine goCh Hz (.assign rfl .nil) ?_
 clear Hz Az; intro Az Hz
 refine wpList_nil ?_
 refine hK1 _ _ ?_; clear hK1; try clear K1
 refine wp_seq_k (fun K2 hK2 => ?_)
 refine wp_seq_k (fun K3 hK3 => ?_)
 refine wp_region_lit ?_
 refine goCh Hz (.move rfl <| .lss rfl rfl <| .move rfl <| .nil) ?_
 clear Hz Az; intro Az Hz
 refine bool_cases Hz (t := 20) rfl ?_ ?_
 rotate_left
 · intro hb _; exact absurd hb (by simp)
 clear Hz; intro _ Hz
 refine goCh Hz (.sk <| .sk <| .pickT rfl rfl <| .move rfl <| .sk <| .sk <| .sk <| .sk <| .pickT rfl rfl <| .nil) ?_
 clear Hz Az; intro Az Hz
 refine wpList_nil ?_
 refine hK3 _ _ ?_; clear hK3; try clear K3
 refine wp_cond_true (Hz.ev (x := .tmp 29) rfl) ?_
 replace Hz : Has 112 [(1, _), (2, _), (3, _), (6, _), (7, _), (8, _)] Az := Hz.only [1, 2, 3, 6, 7, 8]
 refine wp_seq_k (fun K4 hK4 => ?_)
 refine wp_region_lit ?_
 refine goCh Hz (.build rfl zc32pM fl32pM rfl (by dsimp only [setL, List.set] <;> rfl) .nil) ?_
 clear Hz Az; intro Az Hz
 refine wpList_plain rfl (fun K hK => ?_)
 refine e_storeW Hz m11 21 rfl rfl rfl rfl rfl sz32pM ?_
 clear m11; intro w33 m33 hB33
 clear hB33
 refine hK _ _ ?_; clear hK K
 refine goCh Hz (.assign rfl .nil) ?_
 clear Hz Az; intro Az Hz
 refine wpList_nil ?_
 refine hK4 _ _ ?_; clear hK4; try clear K4
 refine wp_ret ?_
 try dsimp only [Exit.then, Exit.inBlock]
 refine (retCT (fn := Tryz.f9) Hz m33 (i := 21) rfl rfl rfl rfl Tryz.underlying32 rfl sz32pM ?_)
 exact ⟨rfl, m33.below⟩
theorem rpush_nm (vo bl sz pe to ne fl : Int) (hi : Bool) (pp pn pw : Option Addr) (cp : Nat) (place : List Int) (nn9 cn9 nw cw : Nat) (ch mk fi cnt : Int) (w0 : World) (hch : 0 ≤ ch ∧ ch < place.length) (hpe : 1 ≤ pe) (hfi : ch * pe = fi) (hfb : 0 ≤ fi ∧ fi ≤ 1000000) (hblb : 0 ≤ bl ∧ bl ≤ 1000000) (hcnt : min pe (bl - fi) = cnt) (hc1 : 1 ≤ cnt) (hno : ¬ (0 ≤ mk ∧ mk ≤ nw)) :
   Calls Tryz.prog 9 #[.agg #[.int .i64 vo, .int .i64 bl, .int .i64 sz, .int .i64 pe, .slice pp place.length cp, .int .i64 to, .int .i64 ne, .bool hi, .int .i64 fl, .slice pn nn9 cn9, .slice pw nw cw], .int .i64 ch, .int .i64 mk] w0 fun e w' => e = .returned (.tuple #[.agg #[.int .i64 0, .int .i64 0, .int .i64 0, .int .i64 0, .int .i64 0, .int .i64 0, .int .i64 0, .slice none 0 0], .bool false]) ∧ Below w0.heap.size w0 w' := by
 refine enter (fn := Tryz.f9) Tryz.func9 rfl Tryz.ntmps9 rfl (fun Az Hz => ?_)
 simp only [List.zipIdx_cons, List.zipIdx_nil, List.map_cons, List.map_nil, Nat.reduceAdd, Nat.zero_add] at Hz
 have m0 := MemOk.start (fun _ => False) w0
 refine wp_seq_k (fun K0 hK0 => ?_)
 refine wp_region_lit ?_
 refine wpList_plain rfl (fun K hK => ?_)
 refine e_box Hz m0 20 (cs := [_, _, _, _, _, _, _, _, _, _, _]) rfl rfl rfl ?_
 clear Hz Az m0; intro g1 Az w2 Hz m2 hB2 hg2
 clear hB2 hg2
 refine hK _ _ ?_; clear hK K
 refine wpList_plain rfl (fun K hK => ?_)
 refine e_alloc Hz m2 21 zc32pN rfl ?_
 clear Hz Az m2; intro g3 Az w4 Hz m4 hB4 hg4
 clear hB4 hg4
 refine hK _ _ ?_; clear hK K
 refine goCh Hz (.assign rfl .nil) ?_
 clear Hz Az; intro Az Hz
 refine wpList_nil ?_
 refine hK0 _ _ ?_; clear hK0; try clear K0
 refine wp_seq_k (fun K1 hK1 => ?_)
 refine wp_region_lit ?_
 refine goCh Hz (.loadBR m4 (i := 20) rfl rfl Tryz.underlying28 rfl sz28pN (by simp) (by dsimp only [List.drop, List.take] <;> rfl) <| .move rfl <| .nil) ?_
 clear Hz Az; intro Az Hz
 refine wpList_plain rfl (fun K hK => ?_)
 refine e_call Hz Tryz.func27 rfl rfl rfl rfl (rcount_yes _ _ _ _ _ _ _ _ _ _ _ _ place _ _ _ _ _ fi cnt _ hch hpe hfi hfb hblb hcnt) ?_
 rintro e w10 ⟨rfl, hb10⟩
 have m11 := m4.later hb10
 clear m4
 clear hb10
 refine ⟨_, rfl, ?_⟩; clear Hz Az; intro Az Hz
 refine hK _ _ ?_; clear hK K
 refine goCh Hz (.assign rfl .nil) ?_
 clear Hz Az; intro Az Hz
 refine wpList_nil ?_
 refine hK1 _ _ ?_; clear hK1; try clear K1
 refine wp_seq_k (fun K2 hK2 => ?_)
 refine wp_seq_k (fun K3 hK3 => ?_)
 refine wp_region_lit ?_
 refine goCh Hz (.move rfl <| .lss rfl rfl <| .move rfl <| .nil) ?_
 clear Hz Az; intro Az Hz
 refine bool_cases Hz (t := 20) rfl ?_ ?_
 · intro hb _; exact absurd hb (by simp; omega)
 clear Hz; intro _ Hz
 refine goCh Hz (.moveZ rfl <| .lssZ rfl rfl <| .pickF rfl rfl <| .move rfl <| .nil) ?_
 clear Hz Az; intro Az Hz
 refine bool_cases Hz (t := 24) rfl ?_ ?_
 ·
  clear Hz; intro hb25 Hz
  try simp only [Q1x, Q2x, Q3x, Q4x, Q5x, Q6x, Q7x, Q8x, Q9x, Q0x, Qax, Qbx] at hb25
  refine goCh Hz (.sk <| .sk <| .sk <| .sk <| .pickT rfl rfl <| .nil) ?_
  clear Hz Az; intro Az Hz
  refine wpList_nil ?_
  refine hK3 _ _ ?_; clear hK3; try clear K3
  refine wp_cond_true (Hz.ev (x := .tmp 29) rfl) ?_
  replace Hz : Has 112 [(1, _), (2, _), (3, _), (6, _), (7, _), (8, _)] Az := Hz.only [1, 2, 3, 6, 7, 8]
  refine wp_seq_k (fun K4 hK4 => ?_)
  refine wp_region_lit ?_
  refine goCh Hz (.build rfl zc32pN fl32pN rfl (by dsimp only [setL, List.set] <;> rfl) .nil) ?_
  clear Hz Az; intro Az Hz
  refine wpList_plain rfl (fun K hK => ?_)
  refine e_storeW Hz m11 21 rfl rfl rfl rfl rfl sz32pN ?_
  clear m11; intro w34 m34 hB34
  clear hB34
  refine hK _ _ ?_; clear hK K
  refine goCh Hz (.assign rfl .nil) ?_
  clear Hz Az; intro Az Hz
  refine wpList_nil ?_
  refine hK4 _ _ ?_; clear hK4; try clear K4
  refine wp_ret ?_
  try dsimp only [Exit.then, Exit.inBlock]
  refine (retCT (fn := Tryz.f9) Hz m34 (i := 21) rfl rfl rfl rfl Tryz.underlying32 rfl sz32pN ?_)
  exact ⟨rfl, m34.below⟩
 ·
  clear Hz; intro hb25 Hz
  try simp only [Q1x, Q2x, Q3x, Q4x, Q5x, Q6x, Q7x, Q8x, Q9x, Q0x, Qax, Qbx] at hb25
  refine goCh Hz (.moveZ rfl <| .loadBRZ m11 (i := 20) rfl rfl Tryz.underlying28 rfl sz28pN (by simp) (by dsimp only [List.drop, List.take] <;> rfl) <| .nil) ?_
  clear Hz Az; intro Az Hz
  refine st_ge Hz rfl rfl rfl rfl (fun K hK => ?_)
  refine e_call Hz Tryz.func7 rfl rfl rfl rfl (rlen_any _ _ _ _ _ _ _ _ _ _ _ _ _ _ _ _ _ _) ?_
  rintro e w38 ⟨rfl, hb38⟩
  have m39 := m11.later hb38
  clear m11
  clear hb38
  refine ⟨_, rfl, ?_⟩; clear Hz Az; intro Az Hz
  refine hK _ _ ?_; clear hK K
  refine goCh Hz (.gtrZ rfl rfl <| .pickF rfl rfl <| .nil) ?_
  clear Hz Az; intro Az Hz
  refine wpList_nil ?_
  refine hK3 _ _ ?_; clear hK3; try clear K3
  refine bool_cases Hz (t := 29) rfl ?_ ?_
  rotate_left
  · intro hb _; exact absurd hb (by simp; omega)
  clear Hz; intro _ Hz
  refine wp_cond_true (Hz.ev (x := .tmp 29) rfl) ?_
  replace Hz : Has 112 [(1, _), (2, _), (3, _), (6, _), (7, _), (8, _)] Az := Hz.only [1, 2, 3, 6, 7, 8]
  refine wp_seq_k (fun K5 hK5 => ?_)
  refine wp_region_lit ?_
  refine goCh Hz (.build rfl zc32pN fl32pN rfl (by dsimp only [setL, List.set] <;> rfl) .nil) ?_
  clear Hz Az; intro Az Hz
  refine wpList_plain rfl (fun K hK => ?_)
  refine e_storeW Hz m39 21 rfl rfl rfl rfl rfl sz32pN ?_
  clear m39; intro w47 m47 hB47
  clear hB47
  refine hK _ _ ?_; clear hK K
  refine goCh Hz (.assign rfl .nil) ?_
  clear Hz Az; intro Az Hz
  refine wpList_nil ?_
  refine hK5 _ _ ?_; clear hK5; try clear K5
  refine wp_ret ?_
  try dsimp only [Exit.then, Exit.inBlock]
  refine (retCT (fn := Tryz.f9) Hz m47 (i := 21) rfl rfl rfl rfl Tryz.underlying32 rfl sz32pN ?_)
  exact ⟨rfl, m47.below⟩
theorem vpush_no (vo bl sz pe to ne fl : Int) (hi : Bool) (pp pn pw : Option Addr) (cp : Nat) (place : List Int) (nn9 cn9 nw cw : Nat) (ch mk : Int) (w0 : World) (hno : ¬ ((0 ≤ ch ∧ ch < place.length) ∧ (0 ≤ mk ∧ mk ≤ nw))) :
   Calls Tryz.prog 8 #[.agg #[.int .i64 vo, .int .i64 bl, .int .i64 sz, .int .i64 pe, .slice pp place.length cp, .int .i64 to, .int .i64 ne, .bool hi, .int .i64 fl, .slice pn nn9 cn9, .slice pw nw cw], .int .i64 ch, .int .i64 mk] w0 fun e w' => e = .returned (.tuple #[.agg #[.int .i64 0, .int .i64 0, .int .i64 0, .int .i64 0, .int .i64 0, .int .i64 0, .int .i64 0, .slice none 0 0], .bool false]) ∧ Below w0.heap.size w0 w' := by
 refine enter (fn := Tryz.f8) Tryz.func8 rfl Tryz.ntmps8 rfl (fun Az Hz => ?_)
 simp only [List.zipIdx_cons, List.zipIdx_nil, List.map_cons, List.map_nil, Nat.reduceAdd, Nat.zero_add] at Hz
 have m0 := MemOk.start (fun _ => False) w0
 refine wp_seq_k (fun K0 hK0 => ?_)
 refine wp_region_lit ?_
 refine wpList_plain rfl (fun K hK => ?_)
 refine e_box Hz m0 20 (cs := [_, _, _, _, _, _, _, _, _, _, _]) rfl rfl rfl ?_
 clear Hz Az m0; intro g1 Az w2 Hz m2 hB2 hg2
 clear hB2 hg2
 refine hK _ _ ?_; clear hK K
 refine wpList_plain rfl (fun K hK => ?_)
 refine e_alloc Hz m2 21 zc32pQ rfl ?_
 clear Hz Az m2; intro g3 Az w4 Hz m4 hB4 hg4
 clear hB4 hg4
 refine hK _ _ ?_; clear hK K
 refine goCh Hz (.assign rfl .nil) ?_
 clear Hz Az; intro Az Hz
 refine wpList_nil ?_
 refine hK0 _ _ ?_; clear hK0; try clear K0
 refine wp_seq_k (fun K1 hK1 => ?_)
 refine wp_seq_k (fun K2 hK2 => ?_)
 refine wp_region_lit ?_
 refine goCh Hz (.move rfl <| .lss rfl rfl <| .move rfl <| .nil) ?_
 clear Hz Az; intro Az Hz
 refine bool_cases Hz (t := 15) rfl ?_ ?_
 ·
  clear Hz; intro hb12 Hz
  try simp only [Q1x, Q2x, Q3x, Q4x, Q5x, Q6x, Q7x, Q8x, Q9x, Q0x, Qax, Qbx] at hb12
  refine goCh Hz (.sk <| .sk <| .sk <| .sk <| .sk <| .pickT rfl rfl <| .move rfl <| .sk <| .sk <| .pickT rfl rfl <| .move rfl <| .sk <| .sk <| .sk <| .sk <| .pickT rfl rfl <| .nil) ?_
  clear Hz Az; intro Az Hz
  refine wpList_nil ?_
  refine hK2 _ _ ?_; clear hK2; try clear K2
  refine wp_cond_true (Hz.ev (x := .tmp 31) rfl) ?_
  replace Hz : Has 98 [(1, _), (2, _), (3, _), (6, _), (7, _)] Az := Hz.only [1, 2, 3, 6, 7]
  refine wp_seq_k (fun K3 hK3 => ?_)
  refine wp_region_lit ?_
  refine goCh Hz (.build rfl zc32pQ fl32pQ rfl (by dsimp only [setL, List.set] <;> rfl) .nil) ?_
  clear Hz Az; intro Az Hz
  refine wpList_plain rfl (fun K hK => ?_)
  refine e_storeW Hz m4 21 rfl rfl rfl rfl rfl sz32pQ ?_
  clear m4; intro w32 m32 hB32
  clear hB32
  refine hK _ _ ?_; clear hK K
  refine goCh Hz (.assign rfl .nil) ?_
  clear Hz Az; intro Az Hz
  refine wpList_nil ?_
  refine hK3 _ _ ?_; clear hK3; try clear K3
  refine wp_ret ?_
  try dsimp only [Exit.then, Exit.inBlock]
  refine (retCT (fn := Tryz.f8) Hz m32 (i := 21) rfl rfl rfl rfl Tryz.underlying32 rfl sz32pQ ?_)
  exact ⟨rfl, m32.below⟩
 ·
  clear Hz; intro hb12 Hz
  try simp only [Q1x, Q2x, Q3x, Q4x, Q5x, Q6x, Q7x, Q8x, Q9x, Q0x, Qax, Qbx] at hb12
  refine goCh Hz (.moveZ rfl <| .fieldAddrZ (off := 4) rfl Tryz.underlying28 rfl (s := 0) (by kernel_rfl) rfl <| .loadB1Z m4 (i := 20) rfl rfl rfl Tryz.underlying24 rfl <| .lenZ rfl Tryz.underlying24 <| .geqZ rfl rfl <| .pickF rfl rfl <| .move rfl <| .nil) ?_
  clear Hz Az; intro Az Hz
  refine bool_cases Hz (t := 22) rfl ?_ ?_
  ·
   clear Hz; intro hb41 Hz
   try simp only [Q1x, Q2x, Q3x, Q4x, Q5x, Q6x, Q7x, Q8x, Q9x, Q0x, Qax, Qbx] at hb41
   refine goCh Hz (.sk <| .sk <| .pickT rfl rfl <| .move rfl <| .sk <| .sk <| .sk <| .sk <| .pickT rfl rfl <| .nil) ?_
   clear Hz Az; intro Az Hz
   refine wpList_nil ?_
   refine hK2 _ _ ?_; clear hK2; try clear K2
   refine wp_cond_true (Hz.ev (x := .tmp 31) rfl) ?_
   replace Hz : Has 98 [(1, _), (2, _), (3, _), (6, _), (7, _)] Az := Hz.only [1, 2, 3, 6, 7]
   refine wp_seq_k (fun K4 hK4 => ?_)
   refine wp_region_lit ?_
   refine goCh Hz (.build rfl zc32pQ fl32pQ rfl (by dsimp only [setL, List.set] <;> rfl) .nil) ?_
   clear Hz Az; intro Az Hz
   refine wpList_plain rfl (fun K hK => ?_)
   refine e_storeW Hz m4 21 rfl rfl rfl rfl rfl sz32pQ ?_
   clear m4; intro w54 m54 hB54
   clear hB54
   refine hK _ _ ?_; clear hK K
   refine goCh Hz (.assign rfl .nil) ?_
   clear Hz Az; intro Az Hz
   refine wpList_nil ?_
   refine hK4 _ _ ?_; clear hK4; try clear K4
   refine wp_ret ?_
   try dsimp only [Exit.then, Exit.inBlock]
   refine (retCT (fn := Tryz.f8) Hz m54 (i := 21) rfl rfl rfl rfl Tryz.underlying32 rfl sz32pQ ?_)
   exact ⟨rfl, m54.below⟩
  ·
   clear Hz; intro hb41 Hz
   try simp only [Q1x, Q2x, Q3x, Q4x, Q5x, Q6x, Q7x, Q8x, Q9x, Q0x, Qax, Qbx] at hb41
   refine goCh Hz (.moveZ rfl <| .lssZ rfl rfl <| .pickF rfl rfl <| .move rfl <| .nil) ?_
   clear Hz Az; intro Az Hz
   refine bool_cases Hz (t := 26) rfl ?_ ?_
   ·
    clear Hz; intro hb60 Hz
    try simp only [Q1x, Q2x, Q3x, Q4x, Q5x, Q6x, Q7x, Q8x, Q9x, Q0x, Qax, Qbx] at hb60
    refine goCh Hz (.sk <| .sk <| .sk <| .sk <| .pickT rfl rfl <| .nil) ?_
    clear Hz Az; intro Az Hz
    refine wpList_nil ?_
    refine hK2 _ _ ?_; clear hK2; try clear K2
    refine wp_cond_true (Hz.ev (x := .tmp 31) rfl) ?_
    replace Hz : Has 98 [(1, _), (2, _), (3, _), (6, _), (7, _)] Az := Hz.only [1, 2, 3, 6, 7]
    refine wp_seq_k (fun K5 hK5 => ?_)
    refine wp_region_lit ?_
    refine goCh Hz (.build rfl zc32pQ fl32pQ rfl (by dsimp only [setL, List.set] <;> rfl) .nil) ?_
    clear Hz Az; intro Az Hz
    refine wpList_plain rfl (fun K hK => ?_)
    refine e_storeW Hz m4 21 rfl rfl rfl rfl rfl sz32pQ ?_
    clear m4; intro w69 m69 hB69
    clear hB69
    refine hK _ _ ?_; clear hK K
    refine goCh Hz (.assign rfl .nil) ?_
    clear Hz Az; intro Az Hz
    refine wpList_nil ?_
    refine hK5 _ _ ?_; clear hK5; try clear K5
    refine wp_ret ?_
    try dsimp only [Exit.then, Exit.inBlock]
    refine (retCT (fn := Tryz.f8) Hz m69 (i := 21) rfl rfl rfl rfl Tryz.underlying32 rfl sz32pQ ?_)
    exact ⟨rfl, m69.below⟩
   ·
    clear Hz; intro hb60 Hz
    try simp only [Q1x, Q2x, Q3x, Q4x, Q5x, Q6x, Q7x, Q8x, Q9x, Q0x, Qax, Qbx] at hb60
    refine goCh Hz (.moveZ rfl <| .loadBRZ m4 (i := 20) rfl rfl Tryz.underlying28 rfl sz28pQ (by simp) (by dsimp only [List.drop, List.take] <;> rfl) <| .nil) ?_
    clear Hz Az; intro Az Hz
    refine st_ge Hz rfl rfl rfl rfl (fun K hK => ?_)
    refine e_call Hz Tryz.func18 rfl rfl rfl rfl (vlen_any _ _ _ _ _ _ _ _ _ _ _ _ _ _ _ _ _ _) ?_
    rintro e w73 ⟨rfl, hb73⟩
    have m74 := m4.later hb73
    clear m4
    clear hb73
    refine ⟨_, rfl, ?_⟩; clear Hz Az; intro Az Hz
    refine hK _ _ ?_; clear hK K
    refine goCh Hz (.gtrZ rfl rfl <| .pickF rfl rfl <| .nil) ?_
    clear Hz Az; intro Az Hz
    refine wpList_nil ?_
    refine hK2 _ _ ?_; clear hK2; try clear K2
    refine bool_cases Hz (t := 31) rfl ?_ ?_
    rotate_left
    · intro hb _; exact absurd hb (by simp; omega)
    clear Hz; intro _ Hz
    refine wp_cond_true (Hz.ev (x := .tmp 31) rfl) ?_
    replace Hz : Has 98 [(1, _), (2, _), (3, _), (6, _), (7, _)] Az := Hz.only [1, 2, 3, 6, 7]
    refine wp_seq_k (fun K6 hK6 => ?_)
    refine wp_region_lit ?_
    refine goCh Hz (.build rfl zc32pQ fl32pQ rfl (by dsimp only [setL, List.set] <;> rfl) .nil) ?_
    clear Hz Az; intro Az Hz
    refine wpList_plain rfl (fun K hK => ?_)
    refine e_storeW Hz m74 21 rfl rfl rfl rfl rfl sz32pQ ?_
    clear m74; intro w82 m82 hB82
    clear hB82
    refine hK _ _ ?_; clear hK K
    refine goCh Hz (.assign rfl .nil) ?_
    clear Hz Az; intro Az Hz
    refine wpList_nil ?_
    refine hK6 _ _ ?_; clear hK6; try clear K6
    refine wp_ret ?_
    try dsimp only [Exit.then, Exit.inBlock]
    refine (retCT (fn := Tryz.f8) Hz m82 (i := 21) rfl rfl rfl rfl Tryz.underlying32 rfl sz32pQ ?_)
    exact ⟨rfl, m82.below⟩
theorem rpush_any (X : Cx) (vo bl sz pe to ne fl : Int) (hi : Bool) (pp pn pw : Option Addr) (cp nn9 cn9 cw : Nat) (place : List Int) (ws : List PWr) (ch fi cnt : Int) (mk tq : Nat) (w0 : World) (hch : 0 ≤ ch ∧ ch < place.length) (hpe : 1 ≤ pe) (hfi : ch * pe = fi) (hfb : 0 ≤ fi ∧ fi ≤ 1000000) (hblb : 0 ≤ bl ∧ bl ≤ 1000000) (hcnt : min pe (bl - fi) = cnt) (hc1 : 1 ≤ cnt) (hl : ws.length ≤ 1000000) (hok : WrsOk ws) (hib : ∀ e ∈ ws, ∀ x ∈ e.2, 0 ≤ x.1 ∧ x.1 < bl) (hmk : mk ≤ ws.length) (htq : min ((mk : Int) + 4) ws.length = tq) (m0 : MemOk X w0 [(3, .dat (.slice pw (ws.map wrD).length cw) (.l 2 (ws.map wrD)))] w0) :
   Calls Tryz.prog 9 #[.agg #[.int .i64 vo, .int .i64 bl, .int .i64 sz, .int .i64 pe, .slice pp place.length cp, .int .i64 to, .int .i64 ne, .bool hi, .int .i64 fl, .slice pn nn9 cn9, .slice pw (ws.map wrD).length cw], .int .i64 ch, .int .i64 (mk : Int)] w0 fun e w' => ∃ p c, e = .returned (.tuple #[.agg #[.int .i64 vo, .int .i64 ch, .int .i64 cnt, .int .i64 sz, .int .i64 (mk : Int), .int .i64 (tq : Int), .int .i64 (min fl tq), .slice p ((pushL fi cnt ((ws.take tq).drop mk)).map wrD).length c], .bool true]) ∧ MemOk X w0 [(3, .dat (.slice pw (ws.map wrD).length cw) (.l 2 (ws.map wrD))), (9, .dat (.slice p ((pushL fi cnt ((ws.take tq).drop mk)).map wrD).length c) (.l 2 ((pushL fi cnt ((ws.take tq).drop mk)).map wrD)))] w' := by
 refine enter (fn := Tryz.f9) Tryz.func9 rfl Tryz.ntmps9 rfl (fun Az Hz => ?_)
 simp only [List.zipIdx_cons, List.zipIdx_nil, List.map_cons, List.map_nil, Nat.reduceAdd, Nat.zero_add] at Hz
 obtain ⟨W2, hW2⟩ : ∃ x, (ws.take tq).drop mk = x := ⟨_, rfl⟩
 have hW2l : W2.length = tq - mk := by rw [← hW2, List.length_drop, List.length_take]; omega
 refine wp_seq_k (fun K0 hK0 => ?_)
 refine wp_region_lit ?_
 refine wpList_plain rfl (fun K hK => ?_)
 refine e_box Hz m0 70 (cs := [_, _, _, _, _, _, _, _, _, _, _]) rfl rfl rfl ?_
 clear Hz Az m0; intro g1 Az w2 Hz m2 hB2 hg2
 clear hB2 hg2
 refine hK _ _ ?_; clear hK K
 refine wpList_plain rfl (fun K hK => ?_)
 refine e_alloc Hz m2 71 zc32rpu rfl ?_
 clear Hz Az m2; intro g3 Az w4 Hz m4 hB4 hg4
 clear hB4 hg4
 refine hK _ _ ?_; clear hK K
 refine goCh Hz (.assign rfl .nil) ?_
 clear Hz Az; intro Az Hz
 refine wpList_nil ?_
 refine hK0 _ _ ?_; clear hK0; try clear K0
 refine wp_seq_k (fun K1 hK1 => ?_)
 refine wp_region_lit ?_
 refine goCh Hz (.loadBR m4 (i := 70) rfl rfl Tryz.underlying28 rfl sz28rpu (by simp) (by dsimp only [List.drop, List.take] <;> rfl) <| .move rfl <| .nil) ?_
 clear Hz Az; intro Az Hz
 refine wpList_plain rfl (fun K hK => ?_)
 refine e_call Hz Tryz.func27 rfl rfl rfl rfl (rcount_yes _ _ _ _ _ _ _ _ _ _ _ _ place _ _ _ _ _ fi cnt _ hch hpe hfi hfb hblb hcnt) ?_
 rintro e w10 ⟨rfl, hb10⟩
 have m11 := m4.later hb10
 clear m4
 clear hb10
 refine ⟨_, rfl, ?_⟩; clear Hz Az; intro Az Hz
 refine hK _ _ ?_; clear hK K
 refine goCh Hz (.assign rfl .nil) ?_
 clear Hz Az; intro Az Hz
 refine wpList_nil ?_
 refine hK1 _ _ ?_; clear hK1; try clear K1
 refine wp_seq_k (fun K2 hK2 => ?_)
 refine wp_seq_k (fun K3 hK3 => ?_)
 refine wp_region_lit ?_
 refine goCh Hz (.move rfl <| .lss rfl rfl <| .move rfl <| .nil) ?_
 clear Hz Az; intro Az Hz
 refine bool_cases Hz (t := 20) rfl ?_ ?_
 · intro hb _; exact absurd hb (by first | (simp; done) | (simp; omega))
 clear Hz; intro _ Hz
 refine goCh Hz (.moveZ rfl <| .lssZ rfl rfl <| .pickF rfl rfl <| .move rfl <| .nil) ?_
 clear Hz Az; intro Az Hz
 refine bool_cases Hz (t := 24) rfl ?_ ?_
 · intro hb _; exact absurd hb (by first | (simp; done) | (simp; omega))
 clear Hz; intro _ Hz
 refine goCh Hz (.moveZ rfl <| .loadBRZ m11 (i := 70) rfl rfl Tryz.underlying28 rfl sz28rpu (by simp) (by dsimp only [List.drop, List.take] <;> rfl) <| .nil) ?_
 clear Hz Az; intro Az Hz
 refine st_ge Hz rfl rfl rfl rfl (fun K hK => ?_)
 refine e_call Hz Tryz.func7 rfl rfl rfl rfl (rlen_any _ _ _ _ _ _ _ _ _ _ _ _ _ _ _ _ _ _) ?_
 rintro e w28 ⟨rfl, hb28⟩
 rw [List.length_map]
 have m29 := m11.later hb28
 clear m11
 clear hb28
 refine ⟨_, rfl, ?_⟩; clear Hz Az; intro Az Hz
 refine hK _ _ ?_; clear hK K
 refine goCh Hz (.gtrZ rfl rfl <| .pickF rfl rfl <| .nil) ?_
 clear Hz Az; intro Az Hz
 refine wpList_nil ?_
 refine hK3 _ _ ?_; clear hK3; try clear K3
 refine bool_cases Hz (t := 29) rfl ?_ ?_
 · intro hb _; exact absurd hb (by first | (simp; done) | (simp; omega))
 clear Hz; intro _ Hz
 refine wp_cond_false (Hz.ev (x := .tmp 29) rfl) ?_
 refine wp_skip ?_
 refine hK2 _ _ ?_; clear hK2; try clear K2
 refine wp_seq_k (fun K4 hK4 => ?_)
 replace Hz : Has 112 [(1, _), (2, _), (3, _), (6, _), (7, _), (8, _)] Az := Hz.only [1, 2, 3, 6, 7, 8]
 have m35 : MemOk _ _ [(3, _), (70, _), (71, _)] _ := m29.only [3, 70, 71]; clear m29
 refine region_p 15 (B := [(70, _)]) (m35.to ⟨il, trivial⟩) m35 (by kernel_rfl) (fun w36 hP36 m36 => ?_); clear m35
 refine goR hP36 [0, 1, 2, 3, 4, 5, 6, 7, 8, 9] [1, 5, 9] 10 0 1023 Hz (m36.to ⟨il, trivial⟩) (.fieldAddr (off := 0) rfl Tryz.underlying28 rfl (s := 0) (by kernel_rfl) rfl <| .loadB1 hh (i := 70) rfl rfl rfl Tryz.underlying3 rfl <| .move rfl <| .move rfl <| .fieldAddr (off := 2) rfl Tryz.underlying28 rfl (s := 0) (by kernel_rfl) rfl <| .loadB1 hh (i := 70) rfl rfl rfl Tryz.underlying3 rfl <| .move rfl <| .move rfl <| .add rfl rfl (r := (mk : Int) + 4) (IntWalk.i64_in _ (by omega)) <| .loadBR hh (i := 70) rfl rfl Tryz.underlying28 rfl sz28rpu (by simp) (by dsimp only [List.drop, List.take] <;> rfl) <| .nil) ?_
 clear Hz Az; intro Az Hz
 refine d_two 10 13 rfl rfl (by kernel_rfl) rfl rfl (fun K hK => ?_) (fun K hK => ?_)
 ·
  refine e_call Hz Tryz.func7 rfl rfl rfl rfl (rlen_any _ _ _ _ _ _ _ _ _ _ _ _ _ _ _ _ _ _) ?_
  rintro e w47 ⟨rfl, hb47⟩
  rw [List.length_map]
  have m48 := m36.later hb47
  clear m36
  clear hb47
  refine ⟨_, rfl, ?_⟩; clear Hz Az; intro Az Hz
  refine hK _ _ (fun _ => (m48.to ⟨il, trivial⟩)) ?_; clear hK K
  refine goA hP36 [11, 12] 2 2047 8191 Hz (m48.to ⟨il, trivial⟩) (.p (fun _ _ h => y_min h rfl rfl (r := (tq : Int)) htq) <| .build rfl zc32rpu fl32rpu rfl (by dsimp only [setL, List.set] <;> rfl) <| .nil) ?_
  clear Hz Az; intro Az Hz
  refine stepE_only 13 rfl (by kernel_rfl) rfl (fun K hK => ?_)
  refine e_alloc Hz m48 72 zc32rpu rfl ?_
  clear Hz Az m48; intro g52 Az w53 Hz m53 hB53 hg53
  clear hB53 hg53
  refine hK _ _ (m53.to ⟨il, trivial⟩) ?_; clear hK K
  refine stepE_only 14 rfl (by kernel_rfl) rfl (fun K hK => ?_)
  refine e_storeW Hz m53 72 rfl rfl rfl rfl rfl sz32rpu ?_
  clear m53; intro w54 m54 hB54
  clear hB54
  refine hK _ _ (m54.to ⟨il, trivial⟩) ?_; clear hK K
  refine wpAnyE_done (by kernel_rfl) ?_ _
  refine hK4 _ _ ?_; clear hK4; try clear K4
  replace Hz : Has 112 [(1, _), (3, _), (6, _), (7, _), (8, _), (32, _), (9, _)] Az := Hz.only [1, 3, 6, 7, 8, 32, 9]
  refine wp_seq_k (fun K5 hK5 => ?_)
  refine wp_region_lit ?_
  refine goCh Hz (.fieldAddr (off := 8) rfl Tryz.underlying28 rfl (s := 0) (by kernel_rfl) rfl <| .loadB1 m54 (i := 70) rfl rfl rfl Tryz.underlying2 rfl <| .fieldAddr (off := 5) rfl Tryz.underlying32 rfl (s := 0) (by kernel_rfl) rfl <| .loadB1 m54 (i := 72) rfl rfl rfl Tryz.underlying2 rfl <| .c rfl (fun _ h => y_min h rfl rfl rfl) <| .fieldAddr (off := 6) rfl Tryz.underlying32 rfl (s := 0) (by kernel_rfl) rfl <| .nil) ?_
  clear Hz Az; intro Az Hz
  refine wpList_plain rfl (fun K hK => ?_)
  refine e_store1 Hz m54 72 rfl rfl rfl rfl rfl sz2rpu (by dsimp only [List.set] <;> rfl) ?_
  clear m54; intro w68 m68 hB68
  clear hB68
  refine hK _ _ ?_; clear hK K
  refine wpList_nil ?_
  refine hK5 _ _ ?_; clear hK5; try clear K5
  refine wp_seq_k (fun K6 hK6 => ?_)
  replace Hz : Has 112 [(1, _), (3, _), (6, _), (7, _), (8, _), (32, _), (9, _)] Az := Hz.only [1, 3, 6, 7, 8, 32, 9]
  refine regS Hz (.fieldAddr (off := 4) rfl Tryz.underlying32 rfl (s := 0) (by kernel_rfl) rfl <| .loadB1 m68 (i := 72) rfl rfl rfl Tryz.underlying2 rfl <| .assign rfl <| .nil) ?_
  clear Hz Az; intro Az Hz
  refine wp_block ?_
  refine wp_loop_ghost (fun g a w => ∃ (k B3 B6 B9 : Nat) (p : Option Addr) (c : Nat), mk + k ≤ tq ∧ g = tq - mk - k ∧ Has 112 [(1, .int .i64 ch), (3, .pointer (some ⟨B3, 0, none⟩)), (6, .pointer (some ⟨B6, 0, none⟩)), (8, .int .i64 cnt), (9, .pointer (some ⟨B9, 0, none⟩)), (10, .int .i64 ((mk + k : Nat) : Int))] a ∧ MemOk X w0 [(1, .box B3 28 [.int .i64 vo, .int .i64 bl, .int .i64 sz, .int .i64 pe, .slice pp place.length cp, .int .i64 to, .int .i64 ne, .bool hi, .int .i64 fl, .slice pn nn9 cn9, .slice pw (ws.map wrD).length cw]), (6, .box B6 32 [.int .i64 0, .int .i64 0, .int .i64 0, .int .i64 0, .int .i64 0, .int .i64 0, .int .i64 0, .slice none 0 0]), (9, .box B9 32 [.int .i64 vo, .int .i64 ch, .int .i64 cnt, .int .i64 sz, .int .i64 mk, .int .i64 tq, .int .i64 (min fl tq), .slice p ((pushL fi cnt (W2.take k)).map wrD).length c]), (10, .row (.slice p ((pushL fi cnt (W2.take k)).map wrD).length c) 58 2 ((pushL fi cnt (W2.take k)).map wrD)), (3, .dat (.slice pw (ws.map wrD).length cw) (.l 2 (ws.map wrD)))] w) (tq - mk) ?_ ?_
  · have mz := m68.nilR 10 58 2
    exact ⟨0, _, _, _, _, _, by omega, rfl, Hz.only [1, 3, 6, 8, 9, 10], mz.ren [(1, 70), (6, 71), (9, 72), (10, 10), (3, 3)] (by decide)⟩
  ·
   clear Hz m68
   rintro g Az w73 ⟨k, B3, B6, B9, p, c, hkl, hg, Hz, m73⟩
   refine wp_seq_k (fun K7 hK7 => ?_)
   refine regS Hz (.move rfl <| .fieldAddr (off := 5) rfl Tryz.underlying32 rfl (s := 0) (by kernel_rfl) rfl <| .loadB1 m73 (i := 9) rfl rfl rfl Tryz.underlying2 rfl <| .lss rfl rfl <| .nil) ?_
   clear Hz Az; intro Az Hz
   refine bool_cases Hz (t := 55) rfl ?_ ?_
   ·
    clear Hz; intro hb78 Hz
    try simp only [Q1x, Q2x, Q3x, Q4x, Q5x, Q6x, Q7x, Q8x, Q9x, Q0x, Qax, Qbx] at hb78
    have hk : k < W2.length := by omega
    obtain ⟨⟨xs, xl⟩, hes2⟩ : ∃ e, W2[k]? = some e := ⟨_, List.getElem?_eq_getElem hk⟩
    have hes : ws[mk + k]? = some (xs, xl) := by rw [← hW2, List.getElem?_drop, List.getElem?_take] at hes2; split at hes2; (exact hes2); (cases hes2)
    have hok2 := hok _ (List.mem_of_getElem? hes)
    dsimp only at hok2
    have hib2 := hib _ (List.mem_of_getElem? hes)
    dsimp only at hib2
    refine wp_cond_true (Hz.ev (x := .tmp 55) rfl) ?_
    refine wp_skip ?_
    refine hK7 _ _ ?_; clear hK7; try clear K7
    refine wp_seq_k (fun K8 hK8 => ?_)
    refine wp_block ?_
    refine regS Hz (.assign rfl <| .nil) ?_
    clear Hz Az; intro Az Hz
    refine wp_seq_k (fun K9 hK9 => ?_)
    refine wp_region_lit ?_
    refine goCh Hz (.fieldAddr (off := 10) rfl Tryz.underlying28 rfl (s := 0) (by kernel_rfl) rfl <| .loadB1 m73 (i := 1) rfl rfl rfl Tryz.underlying26 rfl <| .move rfl <| .nil) ?_
    clear Hz Az; intro Az Hz
    obtain ⟨b87, o87, vs87, hp87, hR87, ho87, m87⟩ := m73.openR (i := 3) rfl ((mk + k)) (r := [.v (.int .i64 xs), .l 2 (xl.map itD)]) (wrD_get hes) 100 rfl
    cases hp87; clear m73 ho87
    rcases hR87 with _ | ⟨hd87_0, _ | ⟨hd87_1, _ | _⟩⟩
    obtain rfl := hd87_0.v_out
    clear hd87_0
    obtain ⟨p88, c88, hv88, hc88⟩ := hd87_1.l_shape; subst hv88
    have m88 := m87.dat 101 rfl (hd87_1.cast (fun _ h => (free_add rfl h))); clear m87 hd87_1
    refine goCh Hz (.c rfl (fun _ h => y_idx h rfl rfl Tryz.underlying26 sz58rpu ((mk + k)) rfl (by rw [List.length_map]; omega)) <| .loadCR m88 (i := 100) rfl rfl Tryz.underlying58 rfl sz58rpu <| .nil) ?_
    clear Hz Az; intro Az Hz
    refine wpList_plain rfl (fun K hK => ?_)
    refine e_alloc Hz m88 102 zc58rpu rfl ?_
    clear Hz Az m88; intro g91 Az w92 Hz m92 hB92 hg92
    clear hB92 hg92
    refine hK _ _ ?_; clear hK K
    refine wpList_plain rfl (fun K hK => ?_)
    refine e_storeW Hz m92 102 rfl rfl rfl rfl rfl sz58rpu ?_
    clear m92; intro w93 m93 hB93
    clear hB93
    refine hK _ _ ?_; clear hK K
    refine wpList_nil ?_
    refine hK9 _ _ ?_; clear hK9; try clear K9
    refine wp_seq_k (fun K10 hK10 => ?_)
    replace Hz : Has 112 [(1, _), (3, _), (6, _), (8, _), (9, _), (10, _), (11, _), (12, _)] Az := Hz.only [1, 3, 6, 8, 9, 10, 11, 12]
    refine regS Hz (.assign rfl <| .nil) ?_
    clear Hz Az; intro Az Hz
    refine wp_block ?_
    refine wp_loop_ghost (fun g a w => ∃ (j B3 B6 B9 B12 : Nat) (p p2 px : Option Addr) (c c2 cx9 : Nat), j ≤ xl.length ∧ g = xl.length - j ∧ Has 112 [(1, .int .i64 ch), (3, .pointer (some ⟨B3, 0, none⟩)), (6, .pointer (some ⟨B6, 0, none⟩)), (8, .int .i64 cnt), (9, .pointer (some ⟨B9, 0, none⟩)), (10, .int .i64 ((mk + k : Nat) : Int)), (11, .slice p2 ((itemsL fi cnt (xl.take j)).map itD).length c2), (12, .pointer (some ⟨B12, 0, none⟩)), (13, .int .i64 j)] a ∧ MemOk X w0 [(1, .box B3 28 [.int .i64 vo, .int .i64 bl, .int .i64 sz, .int .i64 pe, .slice pp place.length cp, .int .i64 to, .int .i64 ne, .bool hi, .int .i64 fl, .slice pn nn9 cn9, .slice (some ⟨b87, o87, none⟩) (ws.map wrD).length cw]), (6, .box B6 32 [.int .i64 0, .int .i64 0, .int .i64 0, .int .i64 0, .int .i64 0, .int .i64 0, .int .i64 0, .slice none 0 0]), (9, .box B9 32 [.int .i64 vo, .int .i64 ch, .int .i64 cnt, .int .i64 sz, .int .i64 mk, .int .i64 tq, .int .i64 (min fl tq), .slice p ((pushL fi cnt (W2.take k)).map wrD).length c]), (10, .row (.slice p ((pushL fi cnt (W2.take k)).map wrD).length c) 58 2 ((pushL fi cnt (W2.take k)).map wrD)), (3, .dat (.slice (some ⟨b87, o87, none⟩) (ws.map wrD).length cw) (.l 2 (ws.map wrD))), (12, .box B12 58 [.int .i64 xs, .slice px (xl.map itD).length cx9]), (13, .dat (.slice px (xl.map itD).length cx9) (.l 2 (xl.map itD))), (14, .row (.slice p2 ((itemsL fi cnt (xl.take j)).map itD).length c2) 56 2 ((itemsL fi cnt (xl.take j)).map itD))] w) (xl.length) ?_ ?_
    · have mz := m93.nilR 14 56 2
      exact ⟨0, _, _, _, _, _, _, _, _, _, _, Nat.zero_le _, rfl, Hz.only [1, 3, 6, 8, 9, 10, 11, 12, 13], mz.ren [(1, 1), (6, 6), (9, 9), (10, 10), (3, 3), (12, 102), (13, 101), (14, 14)] (by decide)⟩
    ·
     clear Hz m93
     rintro g Az w96 ⟨j, B3, B6, B9, B12, p, p2, px, c, c2, cx9, hjl, hg2, Hz, m96⟩
     refine wp_seq_k (fun K11 hK11 => ?_)
     refine regS Hz (.move rfl <| .fieldAddr (off := 1) rfl Tryz.underlying58 rfl (s := 0) (by kernel_rfl) rfl <| .loadB1 m96 (i := 12) rfl rfl rfl Tryz.underlying48 rfl <| .len rfl Tryz.underlying48 <| .lss rfl rfl <| .nil) ?_
     clear Hz Az; intro Az Hz
     refine bool_cases Hz (t := 67) rfl ?_ ?_
     ·
      clear Hz; intro hb102 Hz
      try simp only [Q1x, Q2x, Q3x, Q4x, Q5x, Q6x, Q7x, Q8x, Q9x, Q0x, Qax, Qbx] at hb102
      rw [List.length_map] at hb102
      have hj : j < xl.length := by omega
      obtain ⟨⟨xb, xd⟩, hxs⟩ : ∃ e, xl[j]? = some e := ⟨_, List.getElem?_eq_getElem hj⟩
      have hxb := hib2 _ (List.mem_of_getElem? hxs)
      dsimp only at hxb
      have hed := hok2.2 _ (List.mem_of_getElem? hxs)
      dsimp only at hed
      refine wp_cond_true (Hz.ev (x := .tmp 67) rfl) ?_
      refine wp_skip ?_
      refine hK11 _ _ ?_; clear hK11; try clear K11
      refine wp_seq_k (fun K12 hK12 => ?_)
      refine wp_block ?_
      refine wp_seq_k (fun K13 hK13 => ?_)
      obtain ⟨b103, o103, vs103, hp103, hR103, ho103, m103⟩ := m96.openR (i := 13) rfl (j) (r := [.v (.int .i64 xb), .ns .u8 xd]) (itD_get hxs) 200 rfl
      cases hp103; clear m96 ho103
      rcases hR103 with _ | ⟨hd103_0, _ | ⟨hd103_1, _ | _⟩⟩
      obtain rfl := hd103_0.v_out
      clear hd103_0
      obtain ⟨p104, c104, hv104, hc104⟩ := hd103_1.ns_shape; subst hv104
      have m104 := m103.dat 201 rfl (hd103_1.cast (fun _ h => (free_add rfl h))); clear m103 hd103_1
      have m105 : MemOk _ _ [(1, _), (3, _), (6, _), (9, _), (10, _), (12, _), (13, _), (14, _), (200, _), (201, _)] _ := m104.only [1, 3, 6, 9, 10, 12, 13, 14, 200, 201]; clear m104
      refine region_p 12 (B := [(1, _), (3, _), (6, _), (9, _), (10, _), (12, _), (13, _), (14, _), (200, _), (201, _)]) (m105.to ⟨il, il, il, il, il, il, il, il, il, il, trivial⟩) m105 (by kernel_rfl) (fun w106 hP106 m106 => ?_); clear m105
      refine goR hP106 [0, 1, 2, 3, 4, 5, 6, 7, 8, 9, 10, 11] [1, 5, 8] 12 0 4095 Hz (m106.to ⟨il, il, il, il, il, il, il, il, il, il, trivial⟩) (.fieldAddr (off := 1) rfl Tryz.underlying58 rfl (s := 0) (by kernel_rfl) rfl <| .loadB1 hh (i := 12) rfl rfl rfl Tryz.underlying48 rfl <| .move rfl <| .p (fun _ _ h => y_idx h rfl rfl Tryz.underlying48 sz56rpu (j) rfl (by simpa using hj)) <| .fieldAddrQ 0 rfl Tryz.underlying56 rfl (s := 0) (by kernel_rfl) rfl <| .loadC0 hh (i := 200) rfl rfl Tryz.underlying3 rfl <| .move rfl <| .fieldAddr (off := 3) rfl Tryz.underlying28 rfl (s := 0) (by kernel_rfl) rfl <| .loadB1 hh (i := 1) rfl rfl rfl Tryz.underlying3 rfl <| .mul rfl rfl (r := fi) (by rw [hfi]; exact IntWalk.i64_in _ (by omega)) <| .sub rfl rfl (r := xb - fi) (IntWalk.i64_in _ (by omega)) <| .assign rfl <| .nil) ?_
      clear Hz Az; intro Az Hz
      refine wpAnyE_done (by kernel_rfl) ?_ _
      refine hK13 _ _ ?_; clear hK13; try clear K13
      replace Hz : Has 112 [(1, _), (3, _), (6, _), (8, _), (9, _), (10, _), (11, _), (12, _), (13, _), (14, _)] Az := Hz.only [1, 3, 6, 8, 9, 10, 11, 12, 13, 14]
      refine wp_seq_k (fun K14 hK14 => ?_)
      refine wp_region_lit ?_
      refine goCh Hz (.move rfl <| .geq rfl rfl <| .move rfl <| .nil) ?_
      clear Hz Az; intro Az Hz
      refine bool_cases Hz (t := 83) rfl ?_ ?_
      ·
       clear Hz; intro hb126 Hz
       try simp only [Q1x, Q2x, Q3x, Q4x, Q5x, Q6x, Q7x, Q8x, Q9x, Q0x, Qax, Qbx] at hb126
       refine goCh Hz (.moveZ rfl <| .moveZ rfl <| .lssZ rfl rfl <| .pickT rfl rfl <| .nil) ?_
       clear Hz Az; intro Az Hz
       refine wpList_nil ?_
       refine hK14 _ _ ?_; clear hK14; try clear K14
       refine bool_cases Hz (t := 87) rfl ?_ ?_
       ·
        clear Hz; intro hb131 Hz
        try simp only [Q1x, Q2x, Q3x, Q4x, Q5x, Q6x, Q7x, Q8x, Q9x, Q0x, Qax, Qbx] at hb131
        refine wp_cond_true (Hz.ev (x := .tmp 87) rfl) ?_
        refine wp_region_lit ?_
        refine goCh Hz (.move rfl <| .move rfl <| .fieldAddr (off := 1) rfl Tryz.underlying58 rfl (s := 0) (by kernel_rfl) rfl <| .loadB1 m106 (i := 12) rfl rfl rfl Tryz.underlying48 rfl <| .move rfl <| .nil) ?_
        clear Hz Az; intro Az Hz
        obtain ⟨b137, o137, vs137, hp137, hR137, ho137, m137⟩ := m106.openR (i := 13) rfl (j) (r := [.v (.int .i64 xb), .ns .u8 xd]) (itD_get hxs) 202 rfl
        cases hp137; clear m106 ho137
        rcases hR137 with _ | ⟨hd137_0, _ | ⟨hd137_1, _ | _⟩⟩
        obtain rfl := hd137_0.v_out
        clear hd137_0
        obtain ⟨p138, c138, hv138, hc138⟩ := hd137_1.ns_shape; subst hv138
        have m138 := m137.dat 203 rfl (hd137_1.cast (fun _ h => (free_add rfl h))); clear m137 hd137_1
        refine goCh Hz (.c rfl (fun _ h => y_idx h rfl rfl Tryz.underlying48 sz56rpu (j) rfl (by simpa using hj)) <| .fieldAddrQ 1 rfl Tryz.underlying56 rfl (s := 0) (by kernel_rfl) rfl <| .loadC1 m138 (i := 202) (q := 1) rfl rfl rfl Tryz.underlying22 rfl <| .build rfl zc56rpu fl56rpu rfl (by dsimp only [setL, List.set] <;> rfl) <| .nil) ?_
        clear Hz Az; intro Az Hz
        refine wpList_plain rfl (fun K hK => ?_)
        refine e_litR Hz m138 204 (mm := 2) rfl (.cons rfl rfl (.cons (.v _) (.cons (m138.rd (i := 203) rfl) .nil)) <| .nil) Tryz.underlying48 inf56rpu rfl rfl rfl rfl rfl ?_
        clear Hz Az m138; intro g143 Az w144 Hz m144
        refine hK _ _ ?_; clear hK K
        have m146 := m144.freezeR 204 rfl; clear m144
        refine wpList_plain rfl (fun K hK => ?_)
        refine e_appR Hz m146 14 rfl rfl rfl (m146.rd (i := 204) rfl) Tryz.underlying48 inf56rpu rfl rfl (by decide) (by have := itemsL_len fi cnt (xl.take j); rw [List.length_take] at this; simp; omega) rfl ?_
        clear Hz Az m146; intro p145 c145 Az w147 Hz m147
        refine hK _ _ ?_; clear hK K
        refine goCh Hz (.assign rfl .nil) ?_
        clear Hz Az; intro Az Hz
        refine wpList_nil ?_
        refine hK12 _ _ ?_; clear hK12; try clear K12
        replace Hz : Has 112 [(1, _), (3, _), (6, _), (8, _), (9, _), (10, _), (11, _), (12, _), (13, _), (83, _), (87, _)] Az := Hz.only [1, 3, 6, 8, 9, 10, 11, 12, 13, 83, 87]
        refine wp_region_lit ?_
        refine goCh Hz (.move rfl <| .add rfl rfl (r := ((j + 1 : Nat) : Int)) (by rw [IntWalk.i64_in _ (by omega)]; omega) <| .assign rfl <| .nil) ?_
        clear Hz Az; intro Az Hz
        refine wpList_nil ?_
        show ∃ n', n' < _ ∧ _
        have hE : (itemsL fi cnt (xl.take j)).map itD ++ [[D.v (.int .i64 (xb - fi)), .ns .u8 xd]] = (itemsL fi cnt (xl.take (j + 1))).map itD := by rw [itemsL_yes hxs (by omega), List.map_append]; rfl
        rw [hE] at m147 Hz
        exact ⟨xl.length - (j + 1), by omega, j + 1, _, _, _, _, _, _, _, _, _, _, by omega, rfl, Hz.only [1, 3, 6, 8, 9, 10, 11, 12, 13], m147.ren [(1, 1), (6, 6), (9, 9), (10, 10), (3, 3), (12, 12), (13, 13), (14, 14)] (by decide)⟩
       ·
        clear Hz; intro hb131 Hz
        try simp only [Q1x, Q2x, Q3x, Q4x, Q5x, Q6x, Q7x, Q8x, Q9x, Q0x, Qax, Qbx] at hb131
        refine wp_cond_false (Hz.ev (x := .tmp 87) rfl) ?_
        refine wp_skip ?_
        refine hK12 _ _ ?_; clear hK12; try clear K12
        replace Hz : Has 112 [(1, _), (3, _), (6, _), (8, _), (9, _), (10, _), (11, _), (12, _), (13, _), (83, _), (87, _)] Az := Hz.only [1, 3, 6, 8, 9, 10, 11, 12, 13, 83, 87]
        refine wp_region_lit ?_
        refine goCh Hz (.move rfl <| .add rfl rfl (r := ((j + 1 : Nat) : Int)) (by rw [IntWalk.i64_in _ (by omega)]; omega) <| .assign rfl <| .nil) ?_
        clear Hz Az; intro Az Hz
        refine wpList_nil ?_
        show ∃ n', n' < _ ∧ _
        have hE : (itemsL fi cnt (xl.take j)) = itemsL fi cnt (xl.take (j + 1)) := (itemsL_no hxs (by omega)).symm
        rw [hE] at m106 Hz
        exact ⟨xl.length - (j + 1), by omega, j + 1, _, _, _, _, _, _, _, _, _, _, by omega, rfl, Hz.only [1, 3, 6, 8, 9, 10, 11, 12, 13], m106.ren [(1, 1), (6, 6), (9, 9), (10, 10), (3, 3), (12, 12), (13, 13), (14, 14)] (by decide)⟩
      ·
       clear Hz; intro hb126 Hz
       try simp only [Q1x, Q2x, Q3x, Q4x, Q5x, Q6x, Q7x, Q8x, Q9x, Q0x, Qax, Qbx] at hb126
       refine goCh Hz (.sk <| .sk <| .sk <| .pickF rfl rfl <| .nil) ?_
       clear Hz Az; intro Az Hz
       refine wpList_nil ?_
       refine hK14 _ _ ?_; clear hK14; try clear K14
       refine wp_cond_false (Hz.ev (x := .tmp 87) rfl) ?_
       refine wp_skip ?_
       refine hK12 _ _ ?_; clear hK12; try clear K12
       replace Hz : Has 112 [(1, _), (3, _), (6, _), (8, _), (9, _), (10, _), (11, _), (12, _), (13, _), (83, _), (87, _)] Az := Hz.only [1, 3, 6, 8, 9, 10, 11, 12, 13, 83, 87]
       refine wp_region_lit ?_
       refine goCh Hz (.move rfl <| .add rfl rfl (r := ((j + 1 : Nat) : Int)) (by rw [IntWalk.i64_in _ (by omega)]; omega) <| .assign rfl <| .nil) ?_
       clear Hz Az; intro Az Hz
       refine wpList_nil ?_
       show ∃ n', n' < _ ∧ _
       have hE : (itemsL fi cnt (xl.take j)) = itemsL fi cnt (xl.take (j + 1)) := (itemsL_no hxs (by omega)).symm
       rw [hE] at m106 Hz
       exact ⟨xl.length - (j + 1), by omega, j + 1, _, _, _, _, _, _, _, _, _, _, by omega, rfl, Hz.only [1, 3, 6, 8, 9, 10, 11, 12, 13], m106.ren [(1, 1), (6, 6), (9, 9), (10, 10), (3, 3), (12, 12), (13, 13), (14, 14)] (by decide)⟩
     ·
      clear Hz; intro hb102 Hz
      try simp only [Q1x, Q2x, Q3x, Q4x, Q5x, Q6x, Q7x, Q8x, Q9x, Q0x, Qax, Qbx] at hb102
      rw [List.length_map] at hb102
      obtain rfl : j = xl.length := by omega
      rw [List.take_length] at m96 Hz
      refine wp_cond_false (Hz.ev (x := .tmp 67) rfl) ?_
      refine wp_exit ?_
      refine hK10 _ _ ?_; clear hK10; try clear K10
      refine regS Hz (.move rfl <| .len rfl Tryz.underlying48 <| .gtr rfl rfl <| .nil) ?_
      clear Hz Az; intro Az Hz
      refine bool_cases Hz (t := 101) rfl ?_ ?_
      ·
       clear Hz; intro hb168 Hz
       try simp only [Q1x, Q2x, Q3x, Q4x, Q5x, Q6x, Q7x, Q8x, Q9x, Q0x, Qax, Qbx] at hb168
       refine wp_cond_true (Hz.ev (x := .tmp 101) rfl) ?_
       replace Hz : Has 112 [(1, _), (3, _), (6, _), (8, _), (9, _), (10, _), (11, _), (12, _), (13, _), (101, _)] Az := Hz.only [1, 3, 6, 8, 9, 10, 11, 12, 13, 101]
       refine wp_region_lit ?_
       refine goCh Hz (.fieldAddr (off := 7) rfl Tryz.underlying32 rfl (s := 0) (by kernel_rfl) rfl <| .loadB1 m96 (i := 9) rfl rfl rfl Tryz.underlying26 rfl <| .fieldAddr (off := 0) rfl Tryz.underlying58 rfl (s := 0) (by kernel_rfl) rfl <| .loadB1 m96 (i := 12) rfl rfl rfl Tryz.underlying2 rfl <| .move rfl <| .build rfl zc58rpu fl58rpu rfl (by dsimp only [setL, List.set] <;> rfl) <| .nil) ?_
       clear Hz Az; intro Az Hz
       have m177 := m96.freezeR 14 rfl; clear m96
       refine wpList_plain rfl (fun K hK => ?_)
       refine e_litR Hz m177 200 (mm := 2) rfl (.cons rfl rfl (.cons (.v _) (.cons (m177.rd (i := 14) rfl) .nil)) <| .nil) Tryz.underlying26 inf58rpu rfl rfl rfl rfl rfl ?_
       clear Hz Az m177; intro g176 Az w178 Hz m178
       refine hK _ _ ?_; clear hK K
       have m180 := m178.freezeR 200 rfl; clear m178
       refine wpList_plain rfl (fun K hK => ?_)
       refine e_appR Hz m180 10 rfl rfl rfl (m180.rd (i := 200) rfl) Tryz.underlying26 inf58rpu rfl rfl (by decide) (by have := push_len fi cnt (W2.take k); rw [List.length_take] at this; simp; omega) rfl ?_
       clear Hz Az m180; intro p179 c179 Az w181 Hz m181
       refine hK _ _ ?_; clear hK K
       refine goCh Hz (.fieldAddr (off := 7) rfl Tryz.underlying32 rfl (s := 0) (by kernel_rfl) rfl .nil) ?_
       clear Hz Az; intro Az Hz
       refine wpList_plain rfl (fun K hK => ?_)
       refine e_store1 Hz m181 9 rfl rfl rfl rfl rfl sz26rpu (by dsimp only [List.set] <;> rfl) ?_
       clear m181; intro w183 m183 hB183
       clear hB183
       refine hK _ _ ?_; clear hK K
       refine wpList_nil ?_
       refine hK8 _ _ ?_; clear hK8; try clear K8
       replace Hz : Has 112 [(1, _), (3, _), (6, _), (8, _), (9, _), (10, _), (11, _), (12, _), (13, _), (101, _)] Az := Hz.only [1, 3, 6, 8, 9, 10, 11, 12, 13, 101]
       refine wp_region_lit ?_
       refine goCh Hz (.move rfl <| .add rfl rfl (r := ((mk + (k + 1) : Nat) : Int)) (by rw [IntWalk.i64_in _ (by omega)]; omega) <| .assign rfl <| .nil) ?_
       clear Hz Az; intro Az Hz
       refine wpList_nil ?_
       show ∃ n', n' < _ ∧ _
       have hE : (pushL fi cnt (W2.take k)).map wrD ++ [[D.v (.int .i64 xs), .l 2 ((itemsL fi cnt xl).map itD)]] = (pushL fi cnt (W2.take (k + 1))).map wrD := by rw [push_yes hes2 (by have h9 := hb168; rw [List.length_map] at h9; omega), List.map_append]; rfl
       rw [hE] at m183
       exact ⟨tq - mk - (k + 1), by omega, k + 1, _, _, _, _, _, by omega, rfl, Hz.only [1, 3, 6, 8, 9, 10], m183.ren [(1, 1), (6, 6), (9, 9), (10, 10), (3, 3)] (by decide)⟩
      ·
       clear Hz; intro hb168 Hz
       try simp only [Q1x, Q2x, Q3x, Q4x, Q5x, Q6x, Q7x, Q8x, Q9x, Q0x, Qax, Qbx] at hb168
       refine wp_cond_false (Hz.ev (x := .tmp 101) rfl) ?_
       refine wp_skip ?_
       refine hK8 _ _ ?_; clear hK8; try clear K8
       replace Hz : Has 112 [(1, _), (3, _), (6, _), (8, _), (9, _), (10, _), (11, _), (12, _), (13, _), (101, _)] Az := Hz.only [1, 3, 6, 8, 9, 10, 11, 12, 13, 101]
       refine wp_region_lit ?_
       refine goCh Hz (.move rfl <| .add rfl rfl (r := ((mk + (k + 1) : Nat) : Int)) (by rw [IntWalk.i64_in _ (by omega)]; omega) <| .assign rfl <| .nil) ?_
       clear Hz Az; intro Az Hz
       refine wpList_nil ?_
       show ∃ n', n' < _ ∧ _
       have hE : (pushL fi cnt (W2.take k)) = pushL fi cnt (W2.take (k + 1)) := (push_no hes2 (by have h9 := hb168; rw [List.length_map] at h9; omega)).symm
       rw [hE] at m96
       exact ⟨tq - mk - (k + 1), by omega, k + 1, _, _, _, _, _, by omega, rfl, Hz.only [1, 3, 6, 8, 9, 10], m96.ren [(1, 1), (6, 6), (9, 9), (10, 10), (3, 3)] (by decide)⟩
   ·
    clear Hz; intro hb78 Hz
    try simp only [Q1x, Q2x, Q3x, Q4x, Q5x, Q6x, Q7x, Q8x, Q9x, Q0x, Qax, Qbx] at hb78
    obtain rfl : k = W2.length := by omega
    refine wp_cond_false (Hz.ev (x := .tmp 55) rfl) ?_
    refine wp_exit ?_
    refine hK6 _ _ ?_; clear hK6; try clear K6
    refine wp_seq_k (fun K15 hK15 => ?_)
    refine wp_region_lit ?_
    refine goCh Hz (.loadBR m73 (i := 9) rfl rfl Tryz.underlying32 rfl sz32rpu (by simp) (by dsimp only [List.drop, List.take] <;> rfl) .nil) ?_
    clear Hz Az; intro Az Hz
    refine wpList_plain rfl (fun K hK => ?_)
    refine e_storeW Hz m73 6 rfl rfl rfl rfl rfl sz32rpu ?_
    clear m73; intro w194 m194 hB194
    clear hB194
    refine hK _ _ ?_; clear hK K
    refine goCh Hz (.assign rfl .nil) ?_
    clear Hz Az; intro Az Hz
    refine wpList_nil ?_
    refine hK15 _ _ ?_; clear hK15; try clear K15
    refine wp_ret ?_
    try dsimp only [Exit.then, Exit.inBlock]
    refine (retCT (fn := Tryz.f9) Hz m194 (i := 6) rfl rfl rfl rfl Tryz.underlying32 rfl sz32rpu ?_)
    rw [List.take_length] at *
    have m196 := m194.freezeR 10 rfl; clear m194
    rw [hW2]
    exact ⟨_, _, rfl, m196.ren [(3, 3), (9, 10)] (by decide)⟩
 ·
  refine e_alloc Hz m36 72 zc32rpu rfl ?_
  clear Hz Az m36; intro g197 Az w198 Hz m198 hB198 hg198
  clear hB198 hg198
  refine hK _ _ (fun _ => (m198.to ⟨il, trivial⟩)) ?_; clear hK K
  refine stepE_only 10 rfl (by kernel_rfl) rfl (fun K hK => ?_)
  refine e_call Hz Tryz.func7 rfl rfl rfl rfl (rlen_any _ _ _ _ _ _ _ _ _ _ _ _ _ _ _ _ _ _) ?_
  rintro e w199 ⟨rfl, hb199⟩
  rw [List.length_map]
  have m200 := m198.later hb199
  clear m198
  clear hb199
  refine ⟨_, rfl, ?_⟩; clear Hz Az; intro Az Hz
  refine hK _ _ (m200.to ⟨il, trivial⟩) ?_; clear hK K
  refine goA hP36 [11, 12] 2 10239 16383 Hz (m200.to ⟨il, trivial⟩) (.p (fun _ _ h => y_min h rfl rfl (r := (tq : Int)) htq) <| .build rfl zc32rpu fl32rpu rfl (by dsimp only [setL, List.set] <;> rfl) <| .nil) ?_
  clear Hz Az; intro Az Hz
  refine stepE_only 14 rfl (by kernel_rfl) rfl (fun K hK => ?_)
  refine e_storeW Hz m200 72 rfl rfl rfl rfl rfl sz32rpu ?_
  clear m200; intro w204 m204 hB204
  clear hB204
  refine hK _ _ (m204.to ⟨il, trivial⟩) ?_; clear hK K
  refine wpAnyE_done (by kernel_rfl) ?_ _
  refine hK4 _ _ ?_; clear hK4; try clear K4
  replace Hz : Has 112 [(1, _), (3, _), (6, _), (7, _), (8, _), (32, _), (9, _)] Az := Hz.only [1, 3, 6, 7, 8, 32, 9]
  refine wp_seq_k (fun K16 hK16 => ?_)
  refine wp_region_lit ?_
  refine goCh Hz (.fieldAddr (off := 8) rfl Tryz.underlying28 rfl (s := 0) (by kernel_rfl) rfl <| .loadB1 m204 (i := 70) rfl rfl rfl Tryz.underlying2 rfl <| .fieldAddr (off := 5) rfl Tryz.underlying32 rfl (s := 0) (by kernel_rfl) rfl <| .loadB1 m204 (i := 72) rfl rfl rfl Tryz.underlying2 rfl <| .c rfl (fun _ h => y_min h rfl rfl rfl) <| .fieldAddr (off := 6) rfl Tryz.underlying32 rfl (s := 0) (by kernel_rfl) rfl <| .nil) ?_
  clear Hz Az; intro Az Hz
  refine wpList_plain rfl (fun K hK => ?_)
  refine e_store1 Hz m204 72 rfl rfl rfl rfl rfl sz2rpu (by dsimp only [List.set] <;> rfl) ?_
  clear m204; intro w218 m218 hB218
  clear hB218
  refine hK _ _ ?_; clear hK K
  refine wpList_nil ?_
  refine hK16 _ _ ?_; clear hK16; try clear K16
  refine wp_seq_k (fun K17 hK17 => ?_)
  replace Hz : Has 112 [(1, _), (3, _), (6, _), (7, _), (8, _), (32, _), (9, _)] Az := Hz.only [1, 3, 6, 7, 8, 32, 9]
  refine regS Hz (.fieldAddr (off := 4) rfl Tryz.underlying32 rfl (s := 0) (by kernel_rfl) rfl <| .loadB1 m218 (i := 72) rfl rfl rfl Tryz.underlying2 rfl <| .assign rfl <| .nil) ?_
  clear Hz Az; intro Az Hz
  refine wp_block ?_
  refine wp_loop_ghost (fun g a w => ∃ (k B3 B6 B9 : Nat) (p : Option Addr) (c : Nat), mk + k ≤ tq ∧ g = tq - mk - k ∧ Has 112 [(1, .int .i64 ch), (3, .pointer (some ⟨B3, 0, none⟩)), (6, .pointer (some ⟨B6, 0, none⟩)), (8, .int .i64 cnt), (9, .pointer (some ⟨B9, 0, none⟩)), (10, .int .i64 ((mk + k : Nat) : Int))] a ∧ MemOk X w0 [(1, .box B3 28 [.int .i64 vo, .int .i64 bl, .int .i64 sz, .int .i64 pe, .slice pp place.length cp, .int .i64 to, .int .i64 ne, .bool hi, .int .i64 fl, .slice pn nn9 cn9, .slice pw (ws.map wrD).length cw]), (6, .box B6 32 [.int .i64 0, .int .i64 0, .int .i64 0, .int .i64 0, .int .i64 0, .int .i64 0, .int .i64 0, .slice none 0 0]), (9, .box B9 32 [.int .i64 vo, .int .i64 ch, .int .i64 cnt, .int .i64 sz, .int .i64 mk, .int .i64 tq, .int .i64 (min fl tq), .slice p ((pushL fi cnt (W2.take k)).map wrD).length c]), (10, .row (.slice p ((pushL fi cnt (W2.take k)).map wrD).length c) 58 2 ((pushL fi cnt (W2.take k)).map wrD)), (3, .dat (.slice pw (ws.map wrD).length cw) (.l 2 (ws.map wrD)))] w) (tq - mk) ?_ ?_
  · have mz := m218.nilR 10 58 2
    exact ⟨0, _, _, _, _, _, by omega, rfl, Hz.only [1, 3, 6, 8, 9, 10], mz.ren [(1, 70), (6, 71), (9, 72), (10, 10), (3, 3)] (by decide)⟩
  ·
   clear Hz m218
   rintro g Az w223 ⟨k, B3, B6, B9, p, c, hkl, hg, Hz, m223⟩
   refine wp_seq_k (fun K18 hK18 => ?_)
   refine regS Hz (.move rfl <| .fieldAddr (off := 5) rfl Tryz.underlying32 rfl (s := 0) (by kernel_rfl) rfl <| .loadB1 m223 (i := 9) rfl rfl rfl Tryz.underlying2 rfl <| .lss rfl rfl <| .nil) ?_
   clear Hz Az; intro Az Hz
   refine bool_cases Hz (t := 55) rfl ?_ ?_
   ·
    clear Hz; intro hb228 Hz
    try simp only [Q1x, Q2x, Q3x, Q4x, Q5x, Q6x, Q7x, Q8x, Q9x, Q0x, Qax, Qbx] at hb228
    have hk : k < W2.length := by omega
    obtain ⟨⟨xs, xl⟩, hes2⟩ : ∃ e, W2[k]? = some e := ⟨_, List.getElem?_eq_getElem hk⟩
    have hes : ws[mk + k]? = some (xs, xl) := by rw [← hW2, List.getElem?_drop, List.getElem?_take] at hes2; split at hes2; (exact hes2); (cases hes2)
    have hok2 := hok _ (List.mem_of_getElem? hes)
    dsimp only at hok2
    have hib2 := hib _ (List.mem_of_getElem? hes)
    dsimp only at hib2
    refine wp_cond_true (Hz.ev (x := .tmp 55) rfl) ?_
    refine wp_skip ?_
    refine hK18 _ _ ?_; clear hK18; try clear K18
    refine wp_seq_k (fun K19 hK19 => ?_)
    refine wp_block ?_
    refine regS Hz (.assign rfl <| .nil) ?_
    clear Hz Az; intro Az Hz
    refine wp_seq_k (fun K20 hK20 => ?_)
    refine wp_region_lit ?_
    refine goCh Hz (.fieldAddr (off := 10) rfl Tryz.underlying28 rfl (s := 0) (by kernel_rfl) rfl <| .loadB1 m223 (i := 1) rfl rfl rfl Tryz.underlying26 rfl <| .move rfl <| .nil) ?_
    clear Hz Az; intro Az Hz
    obtain ⟨b237, o237, vs237, hp237, hR237, ho237, m237⟩ := m223.openR (i := 3) rfl ((mk + k)) (r := [.v (.int .i64 xs), .l 2 (xl.map itD)]) (wrD_get hes) 100 rfl
    cases hp237; clear m223 ho237
    rcases hR237 with _ | ⟨hd237_0, _ | ⟨hd237_1, _ | _⟩⟩
    obtain rfl := hd237_0.v_out
    clear hd237_0
    obtain ⟨p238, c238, hv238, hc238⟩ := hd237_1.l_shape; subst hv238
    have m238 := m237.dat 101 rfl (hd237_1.cast (fun _ h => (free_add rfl h))); clear m237 hd237_1
    refine goCh Hz (.c rfl (fun _ h => y_idx h rfl rfl Tryz.underlying26 sz58rpu ((mk + k)) rfl (by rw [List.length_map]; omega)) <| .loadCR m238 (i := 100) rfl rfl Tryz.underlying58 rfl sz58rpu <| .nil) ?_
    clear Hz Az; intro Az Hz
    refine wpList_plain rfl (fun K hK => ?_)
    refine e_alloc Hz m238 102 zc58rpu rfl ?_
    clear Hz Az m238; intro g241 Az w242 Hz m242 hB242 hg242
    clear hB242 hg242
    refine hK _ _ ?_; clear hK K
    refine wpList_plain rfl (fun K hK => ?_)
    refine e_storeW Hz m242 102 rfl rfl rfl rfl rfl sz58rpu ?_
    clear m242; intro w243 m243 hB243
    clear hB243
    refine hK _ _ ?_; clear hK K
    refine wpList_nil ?_
    refine hK20 _ _ ?_; clear hK20; try clear K20
    refine wp_seq_k (fun K21 hK21 => ?_)
    replace Hz : Has 112 [(1, _), (3, _), (6, _), (8, _), (9, _), (10, _), (11, _), (12, _)] Az := Hz.only [1, 3, 6, 8, 9, 10, 11, 12]
    refine regS Hz (.assign rfl <| .nil) ?_
    clear Hz Az; intro Az Hz
    refine wp_block ?_
    refine wp_loop_ghost (fun g a w => ∃ (j B3 B6 B9 B12 : Nat) (p p2 px : Option Addr) (c c2 cx9 : Nat), j ≤ xl.length ∧ g = xl.length - j ∧ Has 112 [(1, .int .i64 ch), (3, .pointer (some ⟨B3, 0, none⟩)), (6, .pointer (some ⟨B6, 0, none⟩)), (8, .int .i64 cnt), (9, .pointer (some ⟨B9, 0, none⟩)), (10, .int .i64 ((mk + k : Nat) : Int)), (11, .slice p2 ((itemsL fi cnt (xl.take j)).map itD).length c2), (12, .pointer (some ⟨B12, 0, none⟩)), (13, .int .i64 j)] a ∧ MemOk X w0 [(1, .box B3 28 [.int .i64 vo, .int .i64 bl, .int .i64 sz, .int .i64 pe, .slice pp place.length cp, .int .i64 to, .int .i64 ne, .bool hi, .int .i64 fl, .slice pn nn9 cn9, .slice (some ⟨b237, o237, none⟩) (ws.map wrD).length cw]), (6, .box B6 32 [.int .i64 0, .int .i64 0, .int .i64 0, .int .i64 0, .int .i64 0, .int .i64 0, .int .i64 0, .slice none 0 0]), (9, .box B9 32 [.int .i64 vo, .int .i64 ch, .int .i64 cnt, .int .i64 sz, .int .i64 mk, .int .i64 tq, .int .i64 (min fl tq), .slice p ((pushL fi cnt (W2.take k)).map wrD).length c]), (10, .row (.slice p ((pushL fi cnt (W2.take k)).map wrD).length c) 58 2 ((pushL fi cnt (W2.take k)).map wrD)), (3, .dat (.slice (some ⟨b237, o237, none⟩) (ws.map wrD).length cw) (.l 2 (ws.map wrD))), (12, .box B12 58 [.int .i64 xs, .slice px (xl.map itD).length cx9]), (13, .dat (.slice px (xl.map itD).length cx9) (.l 2 (xl.map itD))), (14, .row (.slice p2 ((itemsL fi cnt (xl.take j)).map itD).length c2) 56 2 ((itemsL fi cnt (xl.take j)).map itD))] w) (xl.length) ?_ ?_
    · have mz := m243.nilR 14 56 2
      exact ⟨0, _, _, _, _, _, _, _, _, _, _, Nat.zero_le _, rfl, Hz.only [1, 3, 6, 8, 9, 10, 11, 12, 13], mz.ren [(1, 1), (6, 6), (9, 9), (10, 10), (3, 3), (12, 102), (13, 101), (14, 14)] (by decide)⟩
    ·
     clear Hz m243
     rintro g Az w246 ⟨j, B3, B6, B9, B12, p, p2, px, c, c2, cx9, hjl, hg2, Hz, m246⟩
     refine wp_seq_k (fun K22 hK22 => ?_)
     refine regS Hz (.move rfl <| .fieldAddr (off := 1) rfl Tryz.underlying58 rfl (s := 0) (by kernel_rfl) rfl <| .loadB1 m246 (i := 12) rfl rfl rfl Tryz.underlying48 rfl <| .len rfl Tryz.underlying48 <| .lss rfl rfl <| .nil) ?_
     clear Hz Az; intro Az Hz
     refine bool_cases Hz (t := 67) rfl ?_ ?_
     ·
      clear Hz; intro hb252 Hz
      try simp only [Q1x, Q2x, Q3x, Q4x, Q5x, Q6x, Q7x, Q8x, Q9x, Q0x, Qax, Qbx] at hb252
      rw [List.length_map] at hb252
      have hj : j < xl.length := by omega
      obtain ⟨⟨xb, xd⟩, hxs⟩ : ∃ e, xl[j]? = some e := ⟨_, List.getElem?_eq_getElem hj⟩
      have hxb := hib2 _ (List.mem_of_getElem? hxs)
      dsimp only at hxb
      have hed := hok2.2 _ (List.mem_of_getElem? hxs)
      dsimp only at hed
      refine wp_cond_true (Hz.ev (x := .tmp 67) rfl) ?_
      refine wp_skip ?_
      refine hK22 _ _ ?_; clear hK22; try clear K22
      refine wp_seq_k (fun K23 hK23 => ?_)
      refine wp_block ?_
      refine wp_seq_k (fun K24 hK24 => ?_)
      obtain ⟨b253, o253, vs253, hp253, hR253, ho253, m253⟩ := m246.openR (i := 13) rfl (j) (r := [.v (.int .i64 xb), .ns .u8 xd]) (itD_get hxs) 200 rfl
      cases hp253; clear m246 ho253
      rcases hR253 with _ | ⟨hd253_0, _ | ⟨hd253_1, _ | _⟩⟩
      obtain rfl := hd253_0.v_out
      clear hd253_0
      obtain ⟨p254, c254, hv254, hc254⟩ := hd253_1.ns_shape; subst hv254
      have m254 := m253.dat 201 rfl (hd253_1.cast (fun _ h => (free_add rfl h))); clear m253 hd253_1
      have m255 : MemOk _ _ [(1, _), (3, _), (6, _), (9, _), (10, _), (12, _), (13, _), (14, _), (200, _), (201, _)] _ := m254.only [1, 3, 6, 9, 10, 12, 13, 14, 200, 201]; clear m254
      refine region_p 12 (B := [(1, _), (3, _), (6, _), (9, _), (10, _), (12, _), (13, _), (14, _), (200, _), (201, _)]) (m255.to ⟨il, il, il, il, il, il, il, il, il, il, trivial⟩) m255 (by kernel_rfl) (fun w256 hP256 m256 => ?_); clear m255
      refine goR hP256 [0, 1, 2, 3, 4, 5, 6, 7, 8, 9, 10, 11] [1, 5, 8] 12 0 4095 Hz (m256.to ⟨il, il, il, il, il, il, il, il, il, il, trivial⟩) (.fieldAddr (off := 1) rfl Tryz.underlying58 rfl (s := 0) (by kernel_rfl) rfl <| .loadB1 hh (i := 12) rfl rfl rfl Tryz.underlying48 rfl <| .move rfl <| .p (fun _ _ h => y_idx h rfl rfl Tryz.underlying48 sz56rpu (j) rfl (by simpa using hj)) <| .fieldAddrQ 0 rfl Tryz.underlying56 rfl (s := 0) (by kernel_rfl) rfl <| .loadC0 hh (i := 200) rfl rfl Tryz.underlying3 rfl <| .move rfl <| .fieldAddr (off := 3) rfl Tryz.underlying28 rfl (s := 0) (by kernel_rfl) rfl <| .loadB1 hh (i := 1) rfl rfl rfl Tryz.underlying3 rfl <| .mul rfl rfl (r := fi) (by rw [hfi]; exact IntWalk.i64_in _ (by omega)) <| .sub rfl rfl (r := xb - fi) (IntWalk.i64_in _ (by omega)) <| .assign rfl <| .nil) ?_
      clear Hz Az; intro Az Hz
      refine wpAnyE_done (by kernel_rfl) ?_ _
      refine hK24 _ _ ?_; clear hK24; try clear K24
      replace Hz : Has 112 [(1, _), (3, _), (6, _), (8, _), (9, _), (10, _), (11, _), (12, _), (13, _), (14, _)] Az := Hz.only [1, 3, 6, 8, 9, 10, 11, 12, 13, 14]
      refine wp_seq_k (fun K25 hK25 => ?_)
      refine wp_region_lit ?_
      refine goCh Hz (.move rfl <| .geq rfl rfl <| .move rfl <| .nil) ?_
      clear Hz Az; intro Az Hz
      refine bool_cases Hz (t := 83) rfl ?_ ?_
      ·
       clear Hz; intro hb276 Hz
       try simp only [Q1x, Q2x, Q3x, Q4x, Q5x, Q6x, Q7x, Q8x, Q9x, Q0x, Qax, Qbx] at hb276
       refine goCh Hz (.moveZ rfl <| .moveZ rfl <| .lssZ rfl rfl <| .pickT rfl rfl <| .nil) ?_
       clear Hz Az; intro Az Hz
       refine wpList_nil ?_
       refine hK25 _ _ ?_; clear hK25; try clear K25
       refine bool_cases Hz (t := 87) rfl ?_ ?_
       ·
        clear Hz; intro hb281 Hz
        try simp only [Q1x, Q2x, Q3x, Q4x, Q5x, Q6x, Q7x, Q8x, Q9x, Q0x, Qax, Qbx] at hb281
        refine wp_cond_true (Hz.ev (x := .tmp 87) rfl) ?_
        refine wp_region_lit ?_
        refine goCh Hz (.move rfl <| .move rfl <| .fieldAddr (off := 1) rfl Tryz.underlying58 rfl (s := 0) (by kernel_rfl) rfl <| .loadB1 m256 (i := 12) rfl rfl rfl Tryz.underlying48 rfl <| .move rfl <| .nil) ?_
        clear Hz Az; intro Az Hz
        obtain ⟨b287, o287, vs287, hp287, hR287, ho287, m287⟩ := m256.openR (i := 13) rfl (j) (r := [.v (.int .i64 xb), .ns .u8 xd]) (itD_get hxs) 202 rfl
        cases hp287; clear m256 ho287
        rcases hR287 with _ | ⟨hd287_0, _ | ⟨hd287_1, _ | _⟩⟩
        obtain rfl := hd287_0.v_out
        clear hd287_0
        obtain ⟨p288, c288, hv288, hc288⟩ := hd287_1.ns_shape; subst hv288
        have m288 := m287.dat 203 rfl (hd287_1.cast (fun _ h => (free_add rfl h))); clear m287 hd287_1
        refine goCh Hz (.c rfl (fun _ h => y_idx h rfl rfl Tryz.underlying48 sz56rpu (j) rfl (by simpa using hj)) <| .fieldAddrQ 1 rfl Tryz.underlying56 rfl (s := 0) (by kernel_rfl) rfl <| .loadC1 m288 (i := 202) (q := 1) rfl rfl rfl Tryz.underlying22 rfl <| .build rfl zc56rpu fl56rpu rfl (by dsimp only [setL, List.set] <;> rfl) <| .nil) ?_
        clear Hz Az; intro Az Hz
        refine wpList_plain rfl (fun K hK => ?_)
        refine e_litR Hz m288 204 (mm := 2) rfl (.cons rfl rfl (.cons (.v _) (.cons (m288.rd (i := 203) rfl) .nil)) <| .nil) Tryz.underlying48 inf56rpu rfl rfl rfl rfl rfl ?_
        clear Hz Az m288; intro g293 Az w294 Hz m294
        refine hK _ _ ?_; clear hK K
        have m296 := m294.freezeR 204 rfl; clear m294
        refine wpList_plain rfl (fun K hK => ?_)
        refine e_appR Hz m296 14 rfl rfl rfl (m296.rd (i := 204) rfl) Tryz.underlying48 inf56rpu rfl rfl (by decide) (by have := itemsL_len fi cnt (xl.take j); rw [List.length_take] at this; simp; omega) rfl ?_
        clear Hz Az m296; intro p295 c295 Az w297 Hz m297
        refine hK _ _ ?_; clear hK K
        refine goCh Hz (.assign rfl .nil) ?_
        clear Hz Az; intro Az Hz
        refine wpList_nil ?_
        refine hK23 _ _ ?_; clear hK23; try clear K23
        replace Hz : Has 112 [(1, _), (3, _), (6, _), (8, _), (9, _), (10, _), (11, _), (12, _), (13, _), (83, _), (87, _)] Az := Hz.only [1, 3, 6, 8, 9, 10, 11, 12, 13, 83, 87]
        refine wp_region_lit ?_
        refine goCh Hz (.move rfl <| .add rfl rfl (r := ((j + 1 : Nat) : Int)) (by rw [IntWalk.i64_in _ (by omega)]; omega) <| .assign rfl <| .nil) ?_
        clear Hz Az; intro Az Hz
        refine wpList_nil ?_
        show ∃ n', n' < _ ∧ _
        have hE : (itemsL fi cnt (xl.take j)).map itD ++ [[D.v (.int .i64 (xb - fi)), .ns .u8 xd]] = (itemsL fi cnt (xl.take (j + 1))).map itD := by rw [itemsL_yes hxs (by omega), List.map_append]; rfl
        rw [hE] at m297 Hz
        exact ⟨xl.length - (j + 1), by omega, j + 1, _, _, _, _, _, _, _, _, _, _, by omega, rfl, Hz.only [1, 3, 6, 8, 9, 10, 11, 12, 13], m297.ren [(1, 1), (6, 6), (9, 9), (10, 10), (3, 3), (12, 12), (13, 13), (14, 14)] (by decide)⟩
       ·
        clear Hz; intro hb281 Hz
        try simp only [Q1x, Q2x, Q3x, Q4x, Q5x, Q6x, Q7x, Q8x, Q9x, Q0x, Qax, Qbx] at hb281
        refine wp_cond_false (Hz.ev (x := .tmp 87) rfl) ?_
        refine wp_skip ?_
        refine hK23 _ _ ?_; clear hK23; try clear K23
        replace Hz : Has 112 [(1, _), (3, _), (6, _), (8, _), (9, _), (10, _), (11, _), (12, _), (13, _), (83, _), (87, _)] Az := Hz.only [1, 3, 6, 8, 9, 10, 11, 12, 13, 83, 87]
        refine wp_region_lit ?_
        refine goCh Hz (.move rfl <| .add rfl rfl (r := ((j + 1 : Nat) : Int)) (by rw [IntWalk.i64_in _ (by omega)]; omega) <| .assign rfl <| .nil) ?_
        clear Hz Az; intro Az Hz
        refine wpList_nil ?_
        show ∃ n', n' < _ ∧ _
        have hE : (itemsL fi cnt (xl.take j)) = itemsL fi cnt (xl.take (j + 1)) := (itemsL_no hxs (by omega)).symm
        rw [hE] at m256 Hz
        exact ⟨xl.length - (j + 1), by omega, j + 1, _, _, _, _, _, _, _, _, _, _, by omega, rfl, Hz.only [1, 3, 6, 8, 9, 10, 11, 12, 13], m256.ren [(1, 1), (6, 6), (9, 9), (10, 10), (3, 3), (12, 12), (13, 13), (14, 14)] (by decide)⟩
      ·
       clear Hz; intro hb276 Hz
       try simp only [Q1x, Q2x, Q3x, Q4x, Q5x, Q6x, Q7x, Q8x, Q9x, Q0x, Qax, Qbx] at hb276
       refine goCh Hz (.sk <| .sk <| .sk <| .pickF rfl rfl <| .nil) ?_
       clear Hz Az; intro Az Hz
       refine wpList_nil ?_
       refine hK25 _ _ ?_; clear hK25; try clear K25
       refine wp_cond_false (Hz.ev (x := .tmp 87) rfl) ?_
       refine wp_skip ?_
       refine hK23 _ _ ?_; clear hK23; try clear K23
       replace Hz : Has 112 [(1, _), (3, _), (6, _), (8, _), (9, _), (10, _), (11, _), (12, _), (13, _), (83, _), (87, _)] Az := Hz.only [1, 3, 6, 8, 9, 10, 11, 12, 13, 83, 87]
       refine wp_region_lit ?_
       refine goCh Hz (.move rfl <| .add rfl rfl (r := ((j + 1 : Nat) : Int)) (by rw [IntWalk.i64_in _ (by omega)]; omega) <| .assign rfl <| .nil) ?_
       clear Hz Az; intro Az Hz
       refine wpList_nil ?_
       show ∃ n', n' < _ ∧ _
       have hE : (itemsL fi cnt (xl.take j)) = itemsL fi cnt (xl.take (j + 1)) := (itemsL_no hxs (by omega)).symm
       rw [hE] at m256 Hz
       exact ⟨xl.length - (j + 1), by omega, j + 1, _, _, _, _, _, _, _, _, _, _, by omega, rfl, Hz.only [1, 3, 6, 8, 9, 10, 11, 12, 13], m256.ren [(1, 1), (6, 6), (9, 9), (10, 10), (3, 3), (12, 12), (13, 13), (14, 14)] (by decide)⟩
     ·
      clear Hz; intro hb252 Hz
      try simp only [Q1x, Q2x, Q3x, Q4x, Q5x, Q6x, Q7x, Q8x, Q9x, Q0x, Qax, Qbx] at hb252
      rw [List.length_map] at hb252
      obtain rfl : j = xl.length := by omega
      rw [List.take_length] at m246 Hz
      refine wp_cond_false (Hz.ev (x := .tmp 67) rfl) ?_
      refine wp_exit ?_
      refine hK21 _ _ ?_; clear hK21; try clear K21
      refine regS Hz (.move rfl <| .len rfl Tryz.underlying48 <| .gtr rfl rfl <| .nil) ?_
      clear Hz Az; intro Az Hz
      refine bool_cases Hz (t := 101) rfl ?_ ?_
      ·
       clear Hz; intro hb318 Hz
       try simp only [Q1x, Q2x, Q3x, Q4x, Q5x, Q6x, Q7x, Q8x, Q9x, Q0x, Qax, Qbx] at hb318
       refine wp_cond_true (Hz.ev (x := .tmp 101) rfl) ?_
       replace Hz : Has 112 [(1, _), (3, _), (6, _), (8, _), (9, _), (10, _), (11, _), (12, _), (13, _), (101, _)] Az := Hz.only [1, 3, 6, 8, 9, 10, 11, 12, 13, 101]
       refine wp_region_lit ?_
       refine goCh Hz (.fieldAddr (off := 7) rfl Tryz.underlying32 rfl (s := 0) (by kernel_rfl) rfl <| .loadB1 m246 (i := 9) rfl rfl rfl Tryz.underlying26 rfl <| .fieldAddr (off := 0) rfl Tryz.underlying58 rfl (s := 0) (by kernel_rfl) rfl <| .loadB1 m246 (i := 12) rfl rfl rfl Tryz.underlying2 rfl <| .move rfl <| .build rfl zc58rpu fl58rpu rfl (by dsimp only [setL, List.set] <;> rfl) <| .nil) ?_
       clear Hz Az; intro Az Hz
       have m327 := m246.freezeR 14 rfl; clear m246
       refine wpList_plain rfl (fun K hK => ?_)
       refine e_litR Hz m327 200 (mm := 2) rfl (.cons rfl rfl (.cons (.v _) (.cons (m327.rd (i := 14) rfl) .nil)) <| .nil) Tryz.underlying26 inf58rpu rfl rfl rfl rfl rfl ?_
       clear Hz Az m327; intro g326 Az w328 Hz m328
       refine hK _ _ ?_; clear hK K
       have m330 := m328.freezeR 200 rfl; clear m328
       refine wpList_plain rfl (fun K hK => ?_)
       refine e_appR Hz m330 10 rfl rfl rfl (m330.rd (i := 200) rfl) Tryz.underlying26 inf58rpu rfl rfl (by decide) (by have := push_len fi cnt (W2.take k); rw [List.length_take] at this; simp; omega) rfl ?_
       clear Hz Az m330; intro p329 c329 Az w331 Hz m331
       refine hK _ _ ?_; clear hK K
       refine goCh Hz (.fieldAddr (off := 7) rfl Tryz.underlying32 rfl (s := 0) (by kernel_rfl) rfl .nil) ?_
       clear Hz Az; intro Az Hz
       refine wpList_plain rfl (fun K hK => ?_)
       refine e_store1 Hz m331 9 rfl rfl rfl rfl rfl sz26rpu (by dsimp only [List.set] <;> rfl) ?_
       clear m331; intro w333 m333 hB333
       clear hB333
       refine hK _ _ ?_; clear hK K
       refine wpList_nil ?_
       refine hK19 _ _ ?_; clear hK19; try clear K19
       replace Hz : Has 112 [(1, _), (3, _), (6, _), (8, _), (9, _), (10, _), (11, _), (12, _), (13, _), (101, _)] Az := Hz.only [1, 3, 6, 8, 9, 10, 11, 12, 13, 101]
       refine wp_region_lit ?_
       refine goCh Hz (.move rfl <| .add rfl rfl (r := ((mk + (k + 1) : Nat) : Int)) (by rw [IntWalk.i64_in _ (by omega)]; omega) <| .assign rfl <| .nil) ?_
       clear Hz Az; intro Az Hz
       refine wpList_nil ?_
       show ∃ n', n' < _ ∧ _
       have hE : (pushL fi cnt (W2.take k)).map wrD ++ [[D.v (.int .i64 xs), .l 2 ((itemsL fi cnt xl).map itD)]] = (pushL fi cnt (W2.take (k + 1))).map wrD := by rw [push_yes hes2 (by have h9 := hb318; rw [List.length_map] at h9; omega), List.map_append]; rfl
       rw [hE] at m333
       exact ⟨tq - mk - (k + 1), by omega, k + 1, _, _, _, _, _, by omega, rfl, Hz.only [1, 3, 6, 8, 9, 10], m333.ren [(1, 1), (6, 6), (9, 9), (10, 10), (3, 3)] (by decide)⟩
      ·
       clear Hz; intro hb318 Hz
       try simp only [Q1x, Q2x, Q3x, Q4x, Q5x, Q6x, Q7x, Q8x, Q9x, Q0x, Qax, Qbx] at hb318
       refine wp_cond_false (Hz.ev (x := .tmp 101) rfl) ?_
       refine wp_skip ?_
       refine hK19 _ _ ?_; clear hK19; try clear K19
       replace Hz : Has 112 [(1, _), (3, _), (6, _), (8, _), (9, _), (10, _), (11, _), (12, _), (13, _), (101, _)] Az := Hz.only [1, 3, 6, 8, 9, 10, 11, 12, 13, 101]
       refine wp_region_lit ?_
       refine goCh Hz (.move rfl <| .add rfl rfl (r := ((mk + (k + 1) : Nat) : Int)) (by rw [IntWalk.i64_in _ (by omega)]; omega) <| .assign rfl <| .nil) ?_
       clear Hz Az; intro Az Hz
       refine wpList_nil ?_
       show ∃ n', n' < _ ∧ _
       have hE : (pushL fi cnt (W2.take k)) = pushL fi cnt (W2.take (k + 1)) := (push_no hes2 (by have h9 := hb318; rw [List.length_map] at h9; omega)).symm
       rw [hE] at m246
       exact ⟨tq - mk - (k + 1), by omega, k + 1, _, _, _, _, _, by omega, rfl, Hz.only [1, 3, 6, 8, 9, 10], m246.ren [(1, 1), (6, 6), (9, 9), (10, 10), (3, 3)] (by decide)⟩
   ·
    clear Hz; intro hb228 Hz
    try simp only [Q1x, Q2x, Q3x, Q4x, Q5x, Q6x, Q7x, Q8x, Q9x, Q0x, Qax, Qbx] at hb228
    obtain rfl : k = W2.length := by omega
    refine wp_cond_false (Hz.ev (x := .tmp 55) rfl) ?_
    refine wp_exit ?_
    refine hK17 _ _ ?_; clear hK17; try clear K17
    refine wp_seq_k (fun K26 hK26 => ?_)
    refine wp_region_lit ?_
    refine goCh Hz (.loadBR m223 (i := 9) rfl rfl Tryz.underlying32 rfl sz32rpu (by simp) (by dsimp only [List.drop, List.take] <;> rfl) .nil) ?_
    clear Hz Az; intro Az Hz
    refine wpList_plain rfl (fun K hK => ?_)
    refine e_storeW Hz m223 6 rfl rfl rfl rfl rfl sz32rpu ?_
    clear m223; intro w344 m344 hB344
    clear hB344
    refine hK _ _ ?_; clear hK K
    refine goCh Hz (.assign rfl .nil) ?_
    clear Hz Az; intro Az Hz
    refine wpList_nil ?_
    refine hK26 _ _ ?_; clear hK26; try clear K26
    refine wp_ret ?_
    try dsimp only [Exit.then, Exit.inBlock]
    refine (retCT (fn := Tryz.f9) Hz m344 (i := 6) rfl rfl rfl rfl Tryz.underlying32 rfl sz32rpu ?_)
    rw [List.take_length] at *
    have m346 := m344.freezeR 10 rfl; clear m344
    rw [hW2]
    exact ⟨_, _, rfl, m346.ren [(3, 3), (9, 10)] (by decide)⟩
theorem rstate_pruned (vo bl sz pe to ne fl : Int) (hi : Bool) (pp pn pw : Option Addr) (np cp nn9 cn9 nw cw : Nat) (tt : Int) (w0 : World) (ht : tt < fl) :
   Calls Tryz.prog 12 #[.agg #[.int .i64 vo, .int .i64 bl, .int .i64 sz, .int .i64 pe, .slice pp np cp, .int .i64 to, .int .i64 ne, .bool hi, .int .i64 fl, .slice pn nn9 cn9, .slice pw nw cw], .int .i64 tt] w0 fun e w' => e = .returned (.tuple #[.slice none 0 0, .int .i64 30]) ∧ Below w0.heap.size w0 w' := by
 refine enter (fn := Tryz.f12) Tryz.func12 rfl Tryz.ntmps12 rfl (fun Az Hz => ?_)
 simp only [List.zipIdx_cons, List.zipIdx_nil, List.map_cons, List.map_nil, Nat.reduceAdd, Nat.zero_add] at Hz
 have m0 := MemOk.start (fun _ => False) w0
 refine wp_seq_k (fun K0 hK0 => ?_)
 refine wp_region_lit ?_
 refine wpList_plain rfl (fun K hK => ?_)
 refine e_box Hz m0 20 (cs := [_, _, _, _, _, _, _, _, _, _, _]) rfl rfl rfl ?_
 clear Hz Az m0; intro g1 Az w2 Hz m2 hB2 hg2
 clear hB2 hg2
 refine hK _ _ ?_; clear hK K
 refine goCh Hz (.assign rfl <| .assign rfl <| .nil) ?_
 clear Hz Az; intro Az Hz
 refine wpList_nil ?_
 refine hK0 _ _ ?_; clear hK0; try clear K0
 refine wp_seq_k (fun K1 hK1 => ?_)
 refine regS Hz (.move rfl <| .fieldAddr (off := 8) rfl Tryz.underlying28 rfl (s := 0) (by kernel_rfl) rfl <| .loadB1 m2 (i := 20) rfl rfl rfl Tryz.underlying2 rfl <| .lss rfl rfl <| .nil) ?_
 clear Hz Az; intro Az Hz
 refine bool_cases Hz (t := 14) rfl ?_ ?_
 rotate_left
 · intro hb _; exact absurd hb (by simp; omega)
 clear Hz; intro _ Hz
 refine wp_cond_true (Hz.ev (x := .tmp 14) rfl) ?_
 refine regS Hz (.assign rfl <| .assign rfl <| .nil) ?_
 clear Hz Az; intro Az Hz
 refine wp_ret ?_
 try dsimp only [Exit.then, Exit.inBlock]
 refine (ret2 (fn := Tryz.f12) Hz rfl rfl rfl ?_)
 exact ⟨rfl, m2.below⟩
theorem rstate_future (vo bl sz pe to ne fl : Int) (hi : Bool) (pp pn pw : Option Addr) (np cp nn9 cn9 nw cw : Nat) (tt : Int) (w0 : World) (ht0 : fl ≤ tt) (ht : nw < tt) :
   Calls Tryz.prog 12 #[.agg #[.int .i64 vo, .int .i64 bl, .int .i64 sz, .int .i64 pe, .slice pp np cp, .int .i64 to, .int .i64 ne, .bool hi, .int .i64 fl, .slice pn nn9 cn9, .slice pw nw cw], .int .i64 tt] w0 fun e w' => e = .returned (.tuple #[.slice none 0 0, .int .i64 31]) ∧ Below w0.heap.size w0 w' := by
 refine enter (fn := Tryz.f12) Tryz.func12 rfl Tryz.ntmps12 rfl (fun Az Hz => ?_)
 simp only [List.zipIdx_cons, List.zipIdx_nil, List.map_cons, List.map_nil, Nat.reduceAdd, Nat.zero_add] at Hz
 have m0 := MemOk.start (fun _ => False) w0
 refine wp_seq_k (fun K0 hK0 => ?_)
 refine wp_region_lit ?_
 refine wpList_plain rfl (fun K hK => ?_)
 refine e_box Hz m0 20 (cs := [_, _, _, _, _, _, _, _, _, _, _]) rfl rfl rfl ?_
 clear Hz Az m0; intro g1 Az w2 Hz m2 hB2 hg2
 clear hB2 hg2
 refine hK _ _ ?_; clear hK K
 refine goCh Hz (.assign rfl <| .assign rfl <| .nil) ?_
 clear Hz Az; intro Az Hz
 refine wpList_nil ?_
 refine hK0 _ _ ?_; clear hK0; try clear K0
 refine wp_seq_k (fun K1 hK1 => ?_)
 refine regS Hz (.move rfl <| .fieldAddr (off := 8) rfl Tryz.underlying28 rfl (s := 0) (by kernel_rfl) rfl <| .loadB1 m2 (i := 20) rfl rfl rfl Tryz.underlying2 rfl <| .lss rfl rfl <| .nil) ?_
 clear Hz Az; intro Az Hz
 refine bool_cases Hz (t := 14) rfl ?_ ?_
 · intro hb _; exact absurd hb (by simp; omega)
 clear Hz; intro _ Hz
 refine wp_cond_false (Hz.ev (x := .tmp 14) rfl) ?_
 refine wp_skip ?_
 refine hK1 _ _ ?_; clear hK1; try clear K1
 refine wp_seq_k (fun K2 hK2 => ?_)
 refine wp_seq_k (fun K3 hK3 => ?_)
 refine wp_region_lit ?_
 refine goCh Hz (.move rfl <| .loadBR m2 (i := 20) rfl rfl Tryz.underlying28 rfl sz28qF (by simp) (by dsimp only [List.drop, List.take] <;> rfl) <| .nil) ?_
 clear Hz Az; intro Az Hz
 refine wpList_plain rfl (fun K hK => ?_)
 refine e_call Hz Tryz.func7 rfl rfl rfl rfl (rlen_any _ _ _ _ _ _ _ _ _ _ _ _ _ _ _ _ _ _) ?_
 rintro e w14 ⟨rfl, hb14⟩
 have m15 := m2.later hb14
 clear m2
 clear hb14
 refine ⟨_, rfl, ?_⟩; clear Hz Az; intro Az Hz
 refine hK _ _ ?_; clear hK K
 refine goCh Hz (.gtr rfl rfl .nil) ?_
 clear Hz Az; intro Az Hz
 refine wpList_nil ?_
 refine hK3 _ _ ?_; clear hK3; try clear K3
 refine bool_cases Hz (t := 18) rfl ?_ ?_
 rotate_left
 · intro hb _; exact absurd hb (by simp; omega)
 clear Hz; intro _ Hz
 refine wp_cond_true (Hz.ev (x := .tmp 18) rfl) ?_
 replace Hz : Has 63 [(1, _), (2, _), (4, _), (5, _)] Az := Hz.only [1, 2, 4, 5]
 refine regS Hz (.assign rfl <| .assign rfl <| .nil) ?_
 clear Hz Az; intro Az Hz
 refine wp_ret ?_
 try dsimp only [Exit.then, Exit.inBlock]
 refine (ret2 (fn := Tryz.f12) Hz rfl rfl rfl ?_)
 exact ⟨rfl, m15.below⟩
theorem rstate_any (X : Cx) (vo bl sz pe to ne fl : Int) (hi : Bool) (pp pn pw : Option Addr) (np cp nn9 cn9 cw : Nat) (ws : List PWr) (t n z : Nat) (w0 : World) (hX : ∀ b, b ∉ X.bad) (hl : ws.length ≤ 1000000) (hok : WrsOk ws) (hib : ∀ e ∈ ws, ∀ x ∈ e.2, 0 ≤ x.1 ∧ x.1 < (n : Int)) (hn : n ≤ 256) (hz : z ≤ 32) (ht0 : fl ≤ t) (ht1 : t ≤ ws.length) (m0 : MemOk X w0 [(3, .dat (.slice pw (ws.map wrD).length cw) (.l 2 (ws.map wrD)))] w0) :
   Calls Tryz.prog 12 #[.agg #[.int .i64 vo, .int .i64 (n : Int), .int .i64 (z : Int), .int .i64 pe, .slice pp np cp, .int .i64 to, .int .i64 ne, .bool hi, .int .i64 fl, .slice pn nn9 cn9, .slice pw (ws.map wrD).length cw], .int .i64 (t : Int)] w0 fun e w' => ∃ p c, e = .returned (.tuple #[.slice p (((ws.take t).foldl stW (List.replicate n (List.replicate z 0))).map bD).length c, .int .i64 0]) ∧ MemOk X w0 [(3, .dat (.slice pw (ws.map wrD).length cw) (.l 2 (ws.map wrD))), (9, .dat (.slice p (((ws.take t).foldl stW (List.replicate n (List.replicate z 0))).map bD).length c) (.l 1 (((ws.take t).foldl stW (List.replicate n (List.replicate z 0))).map bD)))] w' := by
 refine enter (fn := Tryz.f12) Tryz.func12 rfl Tryz.ntmps12 rfl (fun Az Hz => ?_)
 simp only [List.zipIdx_cons, List.zipIdx_nil, List.map_cons, List.map_nil, Nat.reduceAdd, Nat.zero_add] at Hz
 refine wp_seq_k (fun K0 hK0 => ?_)
 refine wp_region_lit ?_
 refine wpList_plain rfl (fun K hK => ?_)
 refine e_box Hz m0 70 (cs := [_, _, _, _, _, _, _, _, _, _, _]) rfl rfl rfl ?_
 clear Hz Az m0; intro g1 Az w2 Hz m2 hB2 hg2
 clear hB2 hg2
 refine hK _ _ ?_; clear hK K
 refine goCh Hz (.assign rfl <| .assign rfl <| .nil) ?_
 clear Hz Az; intro Az Hz
 refine wpList_nil ?_
 refine hK0 _ _ ?_; clear hK0; try clear K0
 refine wp_seq_k (fun K1 hK1 => ?_)
 refine regS Hz (.move rfl <| .fieldAddr (off := 8) rfl Tryz.underlying28 rfl (s := 0) (by kernel_rfl) rfl <| .loadB1 m2 (i := 70) rfl rfl rfl Tryz.underlying2 rfl <| .lss rfl rfl <| .nil) ?_
 clear Hz Az; intro Az Hz
 refine bool_cases Hz (t := 14) rfl ?_ ?_
 · intro hb _; exact absurd hb (by simp; omega)
 clear Hz; intro _ Hz
 refine wp_cond_false (Hz.ev (x := .tmp 14) rfl) ?_
 refine wp_skip ?_
 refine hK1 _ _ ?_; clear hK1; try clear K1
 refine wp_seq_k (fun K2 hK2 => ?_)
 refine wp_seq_k (fun K3 hK3 => ?_)
 refine wp_region_lit ?_
 refine goCh Hz (.move rfl <| .loadBR m2 (i := 70) rfl rfl Tryz.underlying28 rfl sz28rst (by simp) (by dsimp only [List.drop, List.take] <;> rfl) <| .nil) ?_
 clear Hz Az; intro Az Hz
 refine wpList_plain rfl (fun K hK => ?_)
 refine e_call Hz Tryz.func7 rfl rfl rfl rfl (rlen_any _ _ _ _ _ _ _ _ _ _ _ _ _ _ _ _ _ _) ?_
 rintro e w14 ⟨rfl, hb14⟩
 rw [List.length_map]
 have m15 := m2.later hb14
 clear m2
 clear hb14
 refine ⟨_, rfl, ?_⟩; clear Hz Az; intro Az Hz
 refine hK _ _ ?_; clear hK K
 refine goCh Hz (.gtr rfl rfl .nil) ?_
 clear Hz Az; intro Az Hz
 refine wpList_nil ?_
 refine hK3 _ _ ?_; clear hK3; try clear K3
 refine bool_cases Hz (t := 18) rfl ?_ ?_
 · intro hb _; exact absurd hb (by simp; omega)
 clear Hz; intro _ Hz
 refine wp_cond_false (Hz.ev (x := .tmp 18) rfl) ?_
 refine wp_skip ?_
 refine hK2 _ _ ?_; clear hK2; try clear K2
 replace Hz : Has 63 [(1, _), (2, _), (4, _), (5, _)] Az := Hz.only [1, 2, 4, 5]
 refine regS Hz (.assign rfl <| .nil) ?_
 clear Hz Az; intro Az Hz
 refine wp_seq_k (fun K4 hK4 => ?_)
 refine regS Hz (.assign rfl <| .nil) ?_
 clear Hz Az; intro Az Hz
 refine wp_block ?_
 refine wp_loop_ghost (fun g a w => ∃ (k B2 : Nat) (p : Option Addr) (c : Nat), k ≤ n ∧ g = n - k ∧ Has 63 [(1, .int .i64 (t : Int)), (2, .pointer (some ⟨B2, 0, none⟩)), (6, .slice p ((List.replicate k (List.replicate z 0)).map bD).length c), (7, .int .i64 k)] a ∧ MemOk X w0 [(1, .box B2 28 [.int .i64 vo, .int .i64 (n : Int), .int .i64 (z : Int), .int .i64 pe, .slice pp np cp, .int .i64 to, .int .i64 ne, .bool hi, .int .i64 fl, .slice pn nn9 cn9, .slice pw (ws.map wrD).length cw]), (3, .dat (.slice pw (ws.map wrD).length cw) (.l 2 (ws.map wrD))), (9, .row (.slice p ((List.replicate k (List.replicate z 0)).map bD).length c) 22 1 ((List.replicate k (List.replicate z 0)).map bD))] w) (n) ?_ ?_
 · have mz := m15.nilR 9 22 1
   exact ⟨0, _, _, _, Nat.zero_le _, rfl, Hz.only [1, 2, 6, 7], mz.ren [(1, 70), (3, 3), (9, 9)] (by decide)⟩
 ·
  clear Hz m15
  rintro g Az w22 ⟨k, B2, p, c, hkl, hg, Hz, m22⟩
  refine wp_seq_k (fun K5 hK5 => ?_)
  refine regS Hz (.move rfl <| .fieldAddr (off := 1) rfl Tryz.underlying28 rfl (s := 0) (by kernel_rfl) rfl <| .loadB1 m22 (i := 1) rfl rfl rfl Tryz.underlying3 rfl <| .lss rfl rfl <| .nil) ?_
  clear Hz Az; intro Az Hz
  refine bool_cases Hz (t := 22) rfl ?_ ?_
  ·
   clear Hz; intro hb27 Hz
   try simp only [Q1x, Q2x, Q3x, Q4x, Q5x, Q6x, Q7x, Q8x, Q9x, Q0x, Qax, Qbx] at hb27
   have hk9 : k < n := by omega
   refine wp_cond_true (Hz.ev (x := .tmp 22) rfl) ?_
   refine wp_skip ?_
   refine hK5 _ _ ?_; clear hK5; try clear K5
   refine wp_seq_k (fun K6 hK6 => ?_)
   refine wp_block ?_
   refine wp_region_lit ?_
   refine goCh Hz (.move rfl <| .fieldAddr (off := 2) rfl Tryz.underlying28 rfl (s := 0) (by kernel_rfl) rfl <| .loadB1 m22 (i := 1) rfl rfl rfl Tryz.underlying3 rfl <| .nil) ?_
   clear Hz Az; intro Az Hz
   refine wpList_plain rfl (fun K hK => ?_)
   refine e_makeN Hz m22 100 (z) rfl rfl rfl rfl Tryz.underlying22 inf5rst (by decide) (by omega) rfl ?_
   clear Hz Az m22; intro p31 c31 Az w32 Hz m32
   refine hK _ _ ?_; clear hK K
   have m34 := m32.freezeN 100 rfl; clear m32
   refine wpList_plain rfl (fun K hK => ?_)
   refine e_litR Hz m34 101 (mm := 1) rfl (.cons rfl rfl (.cons (m34.rd (i := 100) rfl) .nil) <| .nil) Tryz.underlying36 inf22rst rfl rfl rfl rfl rfl ?_
   clear Hz Az m34; intro g33 Az w35 Hz m35
   refine hK _ _ ?_; clear hK K
   have m37 := m35.freezeR 101 rfl; clear m35
   refine wpList_plain rfl (fun K hK => ?_)
   refine e_appR Hz m37 9 rfl rfl rfl (m37.rd (i := 101) rfl) Tryz.underlying36 inf22rst rfl rfl (by decide) (by simp; omega) rfl ?_
   clear Hz Az m37; intro p36 c36 Az w38 Hz m38
   refine hK _ _ ?_; clear hK K
   refine goCh Hz (.assign rfl .nil) ?_
   clear Hz Az; intro Az Hz
   refine wpList_nil ?_
   refine hK6 _ _ ?_; clear hK6; try clear K6
   replace Hz : Has 63 [(1, _), (2, _), (6, _), (7, _)] Az := Hz.only [1, 2, 6, 7]
   refine wp_region_lit ?_
   refine goCh Hz (.move rfl <| .add rfl rfl (r := ((k + 1 : Nat) : Int)) (by rw [IntWalk.i64_in _ (by omega)]; omega) <| .assign rfl <| .nil) ?_
   clear Hz Az; intro Az Hz
   refine wpList_nil ?_
   show ∃ n', n' < _ ∧ _
   have hE : (List.replicate k (List.replicate z 0)).map bD ++ [[D.ns .u8 (List.replicate z 0)]] = (List.replicate (k + 1) (List.replicate z 0)).map bD := by rw [List.replicate_succ', List.map_append]; rfl
   rw [hE] at m38 Hz
   exact ⟨n - (k + 1), by omega, k + 1, _, _, _, by omega, rfl, Hz.only [1, 2, 6, 7], m38.ren [(1, 1), (3, 3), (9, 9)] (by decide)⟩
  ·
   clear Hz; intro hb27 Hz
   try simp only [Q1x, Q2x, Q3x, Q4x, Q5x, Q6x, Q7x, Q8x, Q9x, Q0x, Qax, Qbx] at hb27
   have hkn : k = n := by omega
   rw [hkn] at m22 Hz
   refine wp_cond_false (Hz.ev (x := .tmp 22) rfl) ?_
   refine wp_exit ?_
   refine hK4 _ _ ?_; clear hK4; try clear K4
   refine wp_seq_k (fun K7 hK7 => ?_)
   refine regS Hz (.assign rfl <| .nil) ?_
   clear Hz Az; intro Az Hz
   refine wp_block ?_
   have m45 := m22.rowS 9 rfl; clear m22
   refine wp_loop_ghost (fun g a w => ∃ (k B2 : Nat) (L : List (List Int)) (p : Option Addr) (c : Nat), k ≤ t ∧ g = t - k ∧ L = (ws.take k).foldl stW (List.replicate n (List.replicate z 0)) ∧ L.length = n ∧ Has 63 [(1, .int .i64 (t : Int)), (2, .pointer (some ⟨B2, 0, none⟩)), (6, .slice p (L.map bD).length c), (8, .int .i64 k)] a ∧ MemOk X w0 [(1, .box B2 28 [.int .i64 vo, .int .i64 (n : Int), .int .i64 (z : Int), .int .i64 pe, .slice pp np cp, .int .i64 to, .int .i64 ne, .bool hi, .int .i64 fl, .slice pn nn9 cn9, .slice pw (ws.map wrD).length cw]), (3, .dat (.slice pw (ws.map wrD).length cw) (.l 2 (ws.map wrD))), (9, .seg (.slice p (L.map bD).length c) 22 1 (L.map bD))] w) (t) ?_ ?_
   · exact ⟨0, _, _, _, _, Nat.zero_le _, rfl, rfl, List.length_replicate .., Hz.only [1, 2, 6, 8], m45.ren [(1, 1), (3, 3), (9, 9)] (by decide)⟩
   ·
    clear Hz m45
    rintro g Az w46 ⟨k, B2, L, p, c, hkl, hg, hL, hLn, Hz, m46⟩
    refine wp_seq_k (fun K8 hK8 => ?_)
    refine regS Hz (.move rfl <| .move rfl <| .lss rfl rfl <| .nil) ?_
    clear Hz Az; intro Az Hz
    refine bool_cases Hz (t := 33) rfl ?_ ?_
    ·
     clear Hz; intro hb50 Hz
     try simp only [Q1x, Q2x, Q3x, Q4x, Q5x, Q6x, Q7x, Q8x, Q9x, Q0x, Qax, Qbx] at hb50
     have hk : k < ws.length := by omega
     obtain ⟨⟨xs, xl⟩, hes⟩ : ∃ e, ws[k]? = some e := ⟨_, List.getElem?_eq_getElem hk⟩
     have hok2 := hok _ (List.mem_of_getElem? hes)
     dsimp only at hok2
     have hib2 := hib _ (List.mem_of_getElem? hes)
     dsimp only at hib2
     refine wp_cond_true (Hz.ev (x := .tmp 33) rfl) ?_
     refine wp_skip ?_
     refine hK8 _ _ ?_; clear hK8; try clear K8
     refine wp_seq_k (fun K9 hK9 => ?_)
     refine wp_block ?_
     refine wp_seq_k (fun K10 hK10 => ?_)
     refine wp_region_lit ?_
     refine goCh Hz (.fieldAddr (off := 10) rfl Tryz.underlying28 rfl (s := 0) (by kernel_rfl) rfl <| .loadB1 m46 (i := 1) rfl rfl rfl Tryz.underlying26 rfl <| .move rfl <| .nil) ?_
     clear Hz Az; intro Az Hz
     obtain ⟨b58, o58, vs58, hp58, hR58, ho58, m58⟩ := m46.openR (i := 3) rfl (k) (r := [.v (.int .i64 xs), .l 2 (xl.map itD)]) (wrD_get hes) 200 rfl
     cases hp58; clear m46 ho58
     rcases hR58 with _ | ⟨hd58_0, _ | ⟨hd58_1, _ | _⟩⟩
     obtain rfl := hd58_0.v_out
     clear hd58_0
     obtain ⟨p59, c59, hv59, hc59⟩ := hd58_1.l_shape; subst hv59
     have m59 := m58.dat 201 rfl (hd58_1.cast (fun _ h => (free_add rfl h))); clear m58 hd58_1
     refine goCh Hz (.c rfl (fun _ h => y_idx h rfl rfl Tryz.underlying26 sz58rst (k) rfl (by rw [List.length_map]; omega)) <| .loadCR m59 (i := 200) rfl rfl Tryz.underlying58 rfl sz58rst <| .nil) ?_
     clear Hz Az; intro Az Hz
     refine wpList_plain rfl (fun K hK => ?_)
     refine e_alloc Hz m59 202 zc58rst rfl ?_
     clear Hz Az m59; intro g62 Az w63 Hz m63 hB63 hg63
     clear hB63 hg63
     refine hK _ _ ?_; clear hK K
     refine wpList_plain rfl (fun K hK => ?_)
     refine e_storeW Hz m63 202 rfl rfl rfl rfl rfl sz58rst ?_
     clear m63; intro w64 m64 hB64
     clear hB64
     refine hK _ _ ?_; clear hK K
     refine wpList_nil ?_
     refine hK10 _ _ ?_; clear hK10; try clear K10
     replace Hz : Has 63 [(1, _), (2, _), (6, _), (8, _), (9, _)] Az := Hz.only [1, 2, 6, 8, 9]
     refine regS Hz (.assign rfl <| .nil) ?_
     clear Hz Az; intro Az Hz
     refine wp_block ?_
     refine wp_loop_ghost (fun g a w => ∃ (j B2 B9 : Nat) (L2 : List (List Int)) (p px : Option Addr) (c cx9 : Nat), j ≤ xl.length ∧ g = xl.length - j ∧ L2 = (xl.take j).foldl stStep L ∧ L2.length = n ∧ Has 63 [(1, .int .i64 (t : Int)), (2, .pointer (some ⟨B2, 0, none⟩)), (6, .slice p (L2.map bD).length c), (8, .int .i64 k), (9, .pointer (some ⟨B9, 0, none⟩)), (10, .int .i64 j)] a ∧ MemOk X w0 [(1, .box B2 28 [.int .i64 vo, .int .i64 (n : Int), .int .i64 (z : Int), .int .i64 pe, .slice pp np cp, .int .i64 to, .int .i64 ne, .bool hi, .int .i64 fl, .slice pn nn9 cn9, .slice (some ⟨b58, o58, none⟩) (ws.map wrD).length cw]), (3, .dat (.slice (some ⟨b58, o58, none⟩) (ws.map wrD).length cw) (.l 2 (ws.map wrD))), (9, .seg (.slice p (L2.map bD).length c) 22 1 (L2.map bD)), (12, .box B9 58 [.int .i64 xs, .slice px (xl.map itD).length cx9]), (13, .dat (.slice px (xl.map itD).length cx9) (.l 2 (xl.map itD)))] w) (xl.length) ?_ ?_
     · exact ⟨0, _, _, L, _, _, _, _, Nat.zero_le _, rfl, rfl, hLn, Hz.only [1, 2, 6, 8, 9, 10], m64.ren [(1, 1), (3, 3), (9, 9), (12, 202), (13, 201)] (by decide)⟩
     ·
      clear Hz m64
      rintro g Az w67 ⟨j, B2, B9, L2, p, px, c, cx9, hjl, hg2, hL2, hL2n, Hz, m67⟩
      refine wp_seq_k (fun K11 hK11 => ?_)
      refine regS Hz (.move rfl <| .fieldAddr (off := 1) rfl Tryz.underlying58 rfl (s := 0) (by kernel_rfl) rfl <| .loadB1 m67 (i := 12) rfl rfl rfl Tryz.underlying48 rfl <| .len rfl Tryz.underlying48 <| .lss rfl rfl <| .nil) ?_
      clear Hz Az; intro Az Hz
      refine bool_cases Hz (t := 45) rfl ?_ ?_
      ·
       clear Hz; intro hb73 Hz
       try simp only [Q1x, Q2x, Q3x, Q4x, Q5x, Q6x, Q7x, Q8x, Q9x, Q0x, Qax, Qbx] at hb73
       rw [List.length_map] at hb73
       have hj : j < xl.length := by omega
       obtain ⟨⟨xb, xd⟩, hxs⟩ : ∃ e, xl[j]? = some e := ⟨_, List.getElem?_eq_getElem hj⟩
       have hxb := hib2 _ (List.mem_of_getElem? hxs)
       dsimp only at hxb
       refine wp_cond_true (Hz.ev (x := .tmp 45) rfl) ?_
       refine wp_skip ?_
       refine hK11 _ _ ?_; clear hK11; try clear K11
       refine wp_seq_k (fun K12 hK12 => ?_)
       refine wp_block ?_
       obtain ⟨b74, o74, vs74, hp74, hR74, ho74, m74⟩ := m67.openR (i := 13) rfl (j) (r := [.v (.int .i64 xb), .ns .u8 xd]) (itD_get hxs) 300 rfl
       cases hp74; clear m67 ho74
       rcases hR74 with _ | ⟨hd74_0, _ | ⟨hd74_1, _ | _⟩⟩
       obtain rfl := hd74_0.v_out
       clear hd74_0
       obtain ⟨p75, c75, hv75, hc75⟩ := hd74_1.ns_shape; subst hv75
       have m75 := m74.dat 301 rfl (hd74_1.cast (fun _ h => (free_add rfl h))); clear m74 hd74_1
       obtain ⟨b76, o76, vs76, hp76, hR76, ho76, m76⟩ := m75.openR (i := 13) rfl (j) (r := [.v (.int .i64 xb), .ns .u8 xd]) (itD_get hxs) 302 rfl
       cases hp76; clear m75 ho76
       rcases hR76 with _ | ⟨hd76_0, _ | ⟨hd76_1, _ | _⟩⟩
       obtain rfl := hd76_0.v_out
       clear hd76_0
       obtain ⟨p77, c77, hv77, hc77⟩ := hd76_1.ns_shape; subst hv77
       have m77 := m76.dat 303 rfl (hd76_1.cast (fun _ h => (free_add rfl h))); clear m76 hd76_1
       obtain ⟨gs78, os78, vs78, hp78, hl78, hR78, hrg78⟩ := m77.openS (i := 9) rfl (xb.toNat) (r := [.ns .u8 (L2.getD xb.toNat [])]) (bD_get (by omega))
       cases hp78; clear hl78 hR78 hrg78 vs78
       have m79 : MemOk _ _ [(1, _), (3, _), (9, _), (12, _), (13, _), (300, _), (301, _), (302, _), (303, _)] _ := m77.only [1, 3, 9, 12, 13, 300, 301, 302, 303]; clear m77
       refine region_p 14 (B := [(1, _), (3, _), (9, _), (12, _), (13, _), (300, _), (301, _), (302, _), (303, _)]) (m79.to ⟨il, il, il, il, il, il, il, il, il, trivial⟩) m79 (by kernel_rfl) (fun w80 hP80 m80 => ?_); clear m79
       refine goR hP80 [0, 1, 2, 3, 4, 5, 6, 7, 8, 9, 10, 11, 12, 13] [2, 6, 8, 12] 14 0 16383 Hz (m80.to ⟨il, il, il, il, il, il, il, il, il, trivial⟩) (.move rfl <| .fieldAddr (off := 1) rfl Tryz.underlying58 rfl (s := 0) (by kernel_rfl) rfl <| .loadB1 hh (i := 12) rfl rfl rfl Tryz.underlying48 rfl <| .move rfl <| .p (fun _ _ h => y_idx h rfl rfl Tryz.underlying48 sz56rst (j) rfl (by simpa using hj)) <| .fieldAddrQ 0 rfl Tryz.underlying56 rfl (s := 0) (by kernel_rfl) rfl <| .loadC0 hh (i := 300) rfl rfl Tryz.underlying3 rfl <| .fieldAddr (off := 1) rfl Tryz.underlying58 rfl (s := 0) (by kernel_rfl) rfl <| .loadB1 hh (i := 12) rfl rfl rfl Tryz.underlying48 rfl <| .move rfl <| .p (fun _ _ h => y_idx h rfl rfl Tryz.underlying48 sz56rst (j) rfl (by simpa using hj)) <| .fieldAddrQ 1 rfl Tryz.underlying56 rfl (s := 0) (by kernel_rfl) rfl <| .loadC1 hh (i := 302) (q := 1) rfl rfl rfl Tryz.underlying22 rfl <| .p (fun _ _ h => y_idx h rfl rfl Tryz.underlying36 sz22rst (xb.toNat) (Int.toNat_of_nonneg (by omega)).symm (by rw [List.length_map]; omega)) <| .nil) ?_
       clear Hz Az; intro Az Hz
       refine stepE_end 14 rfl (by kernel_rfl) rfl (by rfl) (fun K hK => ?_)
       refine e_storeSD Hz m80 9 rfl (xb.toNat) (r := [.ns .u8 (L2.getD xb.toNat [])]) (bD_get (by omega)) (q := 0) rfl rfl rfl rfl rfl sz22rst (m80.rd (i := 303) rfl) ?_
       clear m80; intro w95 m95
       refine hK _ _ ?_; clear hK K
       have hset : (L2.map bD).set xb.toNat ([D.ns .u8 (L2.getD xb.toNat [])].set 0 (D.ns .u8 xd)) = (L2.set xb.toNat xd).map bD := by rw [List.map_set]; rfl
       rw [hset] at m95
       rw [show (List.map bD L2).length = (List.map bD (L2.set xb.toNat xd)).length from by simp] at Hz m95
       refine wpAnyE_done (by kernel_rfl) ?_ _
       refine hK12 _ _ ?_; clear hK12; try clear K12
       replace Hz : Has 63 [(1, _), (2, _), (6, _), (8, _), (9, _), (10, _)] Az := Hz.only [1, 2, 6, 8, 9, 10]
       refine wp_region_lit ?_
       refine goCh Hz (.move rfl <| .add rfl rfl (r := ((j + 1 : Nat) : Int)) (by rw [IntWalk.i64_in _ (by omega)]; omega) <| .assign rfl <| .nil) ?_
       clear Hz Az; intro Az Hz
       refine wpList_nil ?_
       show ∃ n', n' < _ ∧ _
       exact ⟨xl.length - (j + 1), by omega, j + 1, _, _, L2.set xb.toNat xd, _, _, _, _, by omega, rfl, stx_yes hxs hL2 (by omega), by rw [List.length_set]; exact hL2n, Hz.only [1, 2, 6, 8, 9, 10], m95.ren [(1, 1), (3, 3), (9, 9), (12, 12), (13, 13)] (by decide)⟩
      ·
       clear Hz; intro hb73 Hz
       try simp only [Q1x, Q2x, Q3x, Q4x, Q5x, Q6x, Q7x, Q8x, Q9x, Q0x, Qax, Qbx] at hb73
       rw [List.length_map] at hb73
       obtain rfl : j = xl.length := by omega
       rw [List.take_length] at hL2
       refine wp_cond_false (Hz.ev (x := .tmp 45) rfl) ?_
       refine wp_exit ?_
       refine hK9 _ _ ?_; clear hK9; try clear K9
       refine wp_region_lit ?_
       refine goCh Hz (.move rfl <| .add rfl rfl (r := ((k + 1 : Nat) : Int)) (by rw [IntWalk.i64_in _ (by omega)]; omega) <| .assign rfl <| .nil) ?_
       clear Hz Az; intro Az Hz
       refine wpList_nil ?_
       show ∃ n', n' < _ ∧ _
       exact ⟨t - (k + 1), by omega, k + 1, _, L2, _, _, by omega, rfl, st_snoc hes hL hL2, hL2n, Hz.only [1, 2, 6, 8], m67.ren [(1, 1), (3, 3), (9, 9)] (by decide)⟩
    ·
     clear Hz; intro hb50 Hz
     try simp only [Q1x, Q2x, Q3x, Q4x, Q5x, Q6x, Q7x, Q8x, Q9x, Q0x, Qax, Qbx] at hb50
     obtain rfl : k = t := by omega
     refine wp_cond_false (Hz.ev (x := .tmp 33) rfl) ?_
     refine wp_exit ?_
     refine hK7 _ _ ?_; clear hK7; try clear K7
     refine regS Hz (.move rfl <| .assign rfl <| .assign rfl <| .nil) ?_
     clear Hz Az; intro Az Hz
     refine wp_ret ?_
     try dsimp only [Exit.then, Exit.inBlock]
     refine (ret2 (fn := Tryz.f12) Hz rfl rfl rfl ?_)
     have mf106 := m46.freezeS 9 rfl hX
     exact ⟨_, _, by rw [← hL], by rw [← hL]; exact mf106.ren [(3, 3), (9, 9)] (by decide)⟩
theorem rspush_any (vo ch cnt sz fr to fl : Int) (W : List PWr) (p1 p2 : Option Addr) (n1 n2 c1 c2 : Nat) (w0 : World) (h1 : Rd (fun _ => True) w0 (.slice p1 n1 c1) (.l 2 (W.map wrD))) (h2 : Rd (fun _ => True) w0 (.slice p2 n2 c2) (.l 2 (W.map wrD))) (hl : W.length ≤ 1000000) (hl2 : ∀ e ∈ W, e.2.length ≤ 1000000) :
   Calls Tryz.prog 10 #[.agg #[.int .i64 vo, .int .i64 ch, .int .i64 cnt, .int .i64 sz, .int .i64 fr, .int .i64 to, .int .i64 fl, .slice p1 n1 c1], .agg #[.int .i64 vo, .int .i64 ch, .int .i64 cnt, .int .i64 sz, .int .i64 fr, .int .i64 to, .int .i64 fl, .slice p2 n2 c2]] w0 fun e w' => e = .returned (.bool true) ∧ Below w0.heap.size w0 w' := by
 refine enter (fn := Tryz.f10) Tryz.func10 rfl Tryz.ntmps10 rfl (fun Az Hz => ?_)
 simp only [List.zipIdx_cons, List.zipIdx_nil, List.map_cons, List.map_nil, Nat.reduceAdd, Nat.zero_add] at Hz
 have m0 := MemOk.start (fun _ => False) w0
 refine wp_seq_k (fun K0 hK0 => ?_)
 refine wp_region_lit ?_
 refine wpList_plain rfl (fun K hK => ?_)
 refine e_box Hz m0 20 (cs := [_, _, _, _, _, _, _, _]) rfl rfl rfl ?_
 clear Hz Az m0; intro g1 Az w2 Hz m2 hB2 hg2
 clear hB2 hg2
 refine hK _ _ ?_; clear hK K
 refine wpList_plain rfl (fun K hK => ?_)
 refine e_box Hz m2 21 (cs := [_, _, _, _, _, _, _, _]) rfl rfl rfl ?_
 clear Hz Az m2; intro g3 Az w4 Hz m4 hB4 hg4
 clear hB4 hg4
 refine hK _ _ ?_; clear hK K
 refine goCh Hz (.assign rfl .nil) ?_
 clear Hz Az; intro Az Hz
 refine wpList_nil ?_
 refine hK0 _ _ ?_; clear hK0; try clear K0
 refine wp_seq_k (fun K1 hK1 => ?_)
 refine wp_region_lit ?_
 refine goCh Hz (.fieldAddr (off := 0) rfl Tryz.underlying32 rfl (s := 0) (by kernel_rfl) rfl <| .loadB1 m4 (i := 20) rfl rfl rfl Tryz.underlying3 rfl <| .fieldAddr (off := 0) rfl Tryz.underlying32 rfl (s := 0) (by kernel_rfl) rfl <| .loadB1 m4 (i := 21) rfl rfl rfl Tryz.underlying3 rfl <| .eql rfl rfl <| .move rfl <| .nil) ?_
 clear Hz Az; intro Az Hz
 refine bool_cases Hz (t := 10) rfl ?_ ?_
 rotate_left
 · intro hb _; exact absurd hb (by simp)
 clear Hz; intro _ Hz
 refine goCh Hz (.fieldAddrZ (off := 1) rfl Tryz.underlying32 rfl (s := 0) (by kernel_rfl) rfl <| .loadB1Z m4 (i := 20) rfl rfl rfl Tryz.underlying3 rfl <| .fieldAddrZ (off := 1) rfl Tryz.underlying32 rfl (s := 0) (by kernel_rfl) rfl <| .loadB1Z m4 (i := 21) rfl rfl rfl Tryz.underlying3 rfl <| .eqlZ rfl rfl <| .pickT rfl rfl <| .move rfl <| .nil) ?_
 clear Hz Az; intro Az Hz
 refine bool_cases Hz (t := 17) rfl ?_ ?_
 rotate_left
 · intro hb _; exact absurd hb (by simp)
 clear Hz; intro _ Hz
 refine goCh Hz (.fieldAddrZ (off := 2) rfl Tryz.underlying32 rfl (s := 0) (by kernel_rfl) rfl <| .loadB1Z m4 (i := 20) rfl rfl rfl Tryz.underlying3 rfl <| .fieldAddrZ (off := 2) rfl Tryz.underlying32 rfl (s := 0) (by kernel_rfl) rfl <| .loadB1Z m4 (i := 21) rfl rfl rfl Tryz.underlying3 rfl <| .eqlZ rfl rfl <| .pickT rfl rfl <| .move rfl <| .nil) ?_
 clear Hz Az; intro Az Hz
 refine bool_cases Hz (t := 24) rfl ?_ ?_
 rotate_left
 · intro hb _; exact absurd hb (by simp)
 clear Hz; intro _ Hz
 refine goCh Hz (.fieldAddrZ (off := 3) rfl Tryz.underlying32 rfl (s := 0) (by kernel_rfl) rfl <| .loadB1Z m4 (i := 20) rfl rfl rfl Tryz.underlying3 rfl <| .fieldAddrZ (off := 3) rfl Tryz.underlying32 rfl (s := 0) (by kernel_rfl) rfl <| .loadB1Z m4 (i := 21) rfl rfl rfl Tryz.underlying3 rfl <| .eqlZ rfl rfl <| .pickT rfl rfl <| .move rfl <| .nil) ?_
 clear Hz Az; intro Az Hz
 refine bool_cases Hz (t := 31) rfl ?_ ?_
 rotate_left
 · intro hb _; exact absurd hb (by simp)
 clear Hz; intro _ Hz
 refine goCh Hz (.fieldAddrZ (off := 4) rfl Tryz.underlying32 rfl (s := 0) (by kernel_rfl) rfl <| .loadB1Z m4 (i := 20) rfl rfl rfl Tryz.underlying2 rfl <| .fieldAddrZ (off := 4) rfl Tryz.underlying32 rfl (s := 0) (by kernel_rfl) rfl <| .loadB1Z m4 (i := 21) rfl rfl rfl Tryz.underlying2 rfl <| .eqlZ rfl rfl <| .pickT rfl rfl <| .move rfl <| .nil) ?_
 clear Hz Az; intro Az Hz
 refine bool_cases Hz (t := 38) rfl ?_ ?_
 rotate_left
 · intro hb _; exact absurd hb (by simp)
 clear Hz; intro _ Hz
 refine goCh Hz (.fieldAddrZ (off := 5) rfl Tryz.underlying32 rfl (s := 0) (by kernel_rfl) rfl <| .loadB1Z m4 (i := 20) rfl rfl rfl Tryz.underlying2 rfl <| .fieldAddrZ (off := 5) rfl Tryz.underlying32 rfl (s := 0) (by kernel_rfl) rfl <| .loadB1Z m4 (i := 21) rfl rfl rfl Tryz.underlying2 rfl <| .eqlZ rfl rfl <| .pickT rfl rfl <| .move rfl <| .nil) ?_
 clear Hz Az; intro Az Hz
 refine bool_cases Hz (t := 45) rfl ?_ ?_
 rotate_left
 · intro hb _; exact absurd hb (by simp)
 clear Hz; intro _ Hz
 refine goCh Hz (.fieldAddrZ (off := 6) rfl Tryz.underlying32 rfl (s := 0) (by kernel_rfl) rfl <| .loadB1Z m4 (i := 20) rfl rfl rfl Tryz.underlying2 rfl <| .fieldAddrZ (off := 6) rfl Tryz.underlying32 rfl (s := 0) (by kernel_rfl) rfl <| .loadB1Z m4 (i := 21) rfl rfl rfl Tryz.underlying2 rfl <| .eqlZ rfl rfl <| .pickT rfl rfl <| .move rfl <| .nil) ?_
 clear Hz Az; intro Az Hz
 refine bool_cases Hz (t := 52) rfl ?_ ?_
 rotate_left
 · intro hb _; exact absurd hb (by simp)
 clear Hz; intro _ Hz
 refine goCh Hz (.fieldAddrZ (off := 7) rfl Tryz.underlying32 rfl (s := 0) (by kernel_rfl) rfl <| .loadB1Z m4 (i := 20) rfl rfl rfl Tryz.underlying26 rfl <| .fieldAddrZ (off := 7) rfl Tryz.underlying32 rfl (s := 0) (by kernel_rfl) rfl <| .loadB1Z m4 (i := 21) rfl rfl rfl Tryz.underlying26 rfl <| .nil) ?_
 clear Hz Az; intro Az Hz
 refine st_ge Hz rfl rfl rfl rfl (fun K hK => ?_)
 refine e_call Hz Tryz.func28 rfl rfl rfl rfl (swrites_any W _ _ _ _ _ _ _ ((h1.now' m4 rfl).any) ((h2.now' m4 rfl).any) hl hl2) ?_
 rintro e w71 ⟨rfl, hb71⟩
 have m72 := m4.later hb71
 clear m4
 clear hb71
 refine ⟨_, rfl, ?_⟩; clear Hz Az; intro Az Hz
 refine hK _ _ ?_; clear hK K
 refine goCh Hz (.pickT rfl rfl <| .assign rfl <| .nil) ?_
 clear Hz Az; intro Az Hz
 refine wpList_nil ?_
 refine hK1 _ _ ?_; clear hK1; try clear K1
 refine wp_ret ?_
 try dsimp only [Exit.then, Exit.inBlock]
 refine (ret1 (fn := Tryz.f10) Hz rfl rfl ?_)
 exact ⟨by simp, m72.below⟩
end Go.Proofs.YtocfbocdnklllaaGreat.K
