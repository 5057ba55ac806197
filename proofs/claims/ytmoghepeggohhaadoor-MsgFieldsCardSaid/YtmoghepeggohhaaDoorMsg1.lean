/- msg: within, bit, headOf, named, nums.right, entriesRight of none. -/
import Derived.Test.YtmoghepeggohhaaDoorMsgM
namespace Go.Proofs.YtmoghepeggohhaaDoor.K
open Go.ChangeShapes Go.WideShapes Go.ChangeAt Go.RowKit
set_option linter.unusedVariables false
set_option linter.unusedSimpArgs false



theorem fl55mho : flatS Tryd.prog 55 [.int .i64 0, .int .i64 0, .int .i64 0, .int .i64 0, .bool false, .int .i64 0, .int .i64 0, .int .i64 0, .int .i64 0] = true := by kernel_rfl
theorem ps57mho : placesS Tryd.prog 57 = some [(0, 1), (1, 1), (2, 1), (3, 1), (4, 9)] := by kernel_rfl
theorem sz55mho : (Tryd.prog.info? 55).map (·.size) = some 9 := by kernel_rfl
theorem sz57mho : (Tryd.prog.info? 57).map (·.size) = some 13 := by kernel_rfl
theorem zc55mho : ((Tryd.prog.info? 55).bind (·.zero)).map (·.cells.toList) = some [.int .i64 0, .int .i64 0, .int .i64 0, .int .i64 0, .bool false, .int .i64 0, .int .i64 0, .int .i64 0, .int .i64 0] := by kernel_rfl
theorem zc57mho : ((Tryd.prog.info? 57).bind (·.zero)).map (·.cells.toList) = some [.int .i64 0, .int .i64 0, .int .i64 0, .int .i64 0, .int .i64 0, .int .i64 0, .int .i64 0, .int .i64 0, .bool false, .int .i64 0, .int .i64 0, .int .i64 0, .int .i64 0] := by kernel_rfl
theorem fl55mna : flatS Tryd.prog 55 [.int .i64 0, .int .i64 0, .int .i64 0, .int .i64 0, .bool false, .int .i64 0, .int .i64 0, .int .i64 0, .int .i64 0] = true := by kernel_rfl
theorem sz55mna : (Tryd.prog.info? 55).map (·.size) = some 9 := by kernel_rfl
theorem zc55mna : ((Tryd.prog.info? 55).bind (·.zero)).map (·.cells.toList) = some [.int .i64 0, .int .i64 0, .int .i64 0, .int .i64 0, .bool false, .int .i64 0, .int .i64 0, .int .i64 0, .int .i64 0] := by kernel_rfl
theorem inf3mnr : (Tryd.prog.info? 3).map (fun i => (i.zero, i.size, i.bytes)) = some (some (.int .i64 0), 1, 8) := by kernel_rfl
theorem sz3mnr : (Tryd.prog.info? 3).map (·.size) = some 1 := by kernel_rfl


set_option maxRecDepth 100000
set_option maxHeartbeats 4000000
theorem within_x (x e9 : Int) (w0 : World) :
   Calls Tryd.prog 27 #[.int .i64 x, .int .i64 e9] w0 fun e w' => e = .returned (.bool (inB x e9)) ∧ Below w0.heap.size w0 w' := by
 refine enter (fn := Tryd.f27) Tryd.func27 rfl Tryd.ntmps27 rfl (fun Az Hz => ?_)
 simp only [List.zipIdx_cons, List.zipIdx_nil, List.map_cons, List.map_nil, Nat.reduceAdd, Nat.zero_add] at Hz
 have m0 := MemOk.start (fun _ => False) w0
 refine regS Hz (.assign rfl <| .nil) ?_
 clear Hz Az; intro Az Hz
 refine wp_seq_k (fun K0 hK0 => ?_)
 refine wp_region_lit ?_
 refine goCh Hz (.move rfl <| .geq rfl rfl <| .move rfl <| .nil) ?_
 clear Hz Az; intro Az Hz
 refine bool_cases Hz (t := 7) rfl ?_ ?_
 ·
  clear Hz; intro hb8 Hz
  try simp only [Q1x, Q2x, Q3x, Q4x, Q5x, Q6x, Q7x, Q8x, Q9x, Q0x, Qax, Qbx] at hb8
  have h0 : 0 ≤ x := by have := hb8; first | omega | (simp at this; omega)
  refine goCh Hz (.moveZ rfl <| .moveZ rfl <| .lssZ rfl rfl <| .pickT rfl rfl <| .assign rfl <| .nil) ?_
  clear Hz Az; intro Az Hz
  refine wpList_nil ?_
  refine hK0 _ _ ?_; clear hK0; try clear K0
  refine wp_ret ?_
  try dsimp only [Exit.then, Exit.inBlock]
  refine (ret1 (fn := Tryd.f27) Hz rfl rfl ?_)
  exact ⟨by simp [inB, h0], m0.below⟩
 ·
  clear Hz; intro hb8 Hz
  try simp only [Q1x, Q2x, Q3x, Q4x, Q5x, Q6x, Q7x, Q8x, Q9x, Q0x, Qax, Qbx] at hb8
  have h0 : ¬ 0 ≤ x := by have := hb8; first | omega | (simp at this; omega)
  refine goCh Hz (.sk <| .sk <| .sk <| .pickF rfl rfl <| .assign rfl <| .nil) ?_
  clear Hz Az; intro Az Hz
  refine wpList_nil ?_
  refine hK0 _ _ ?_; clear hK0; try clear K0
  refine wp_ret ?_
  try dsimp only [Exit.then, Exit.inBlock]
  refine (ret1 (fn := Tryd.f27) Hz rfl rfl ?_)
  exact ⟨by simp [inB, h0], m0.below⟩
theorem bit_x (ok : Bool) (w0 : World) :
   Calls Tryd.prog 10 #[.bool ok] w0 fun e w' => e = .returned (.int .i64 (bitI ok)) ∧ Below w0.heap.size w0 w' := by
 refine enter (fn := Tryd.f10) Tryd.func10 rfl Tryd.ntmps10 rfl (fun Az Hz => ?_)
 simp only [List.zipIdx_cons, List.zipIdx_nil, List.map_cons, List.map_nil, Nat.reduceAdd, Nat.zero_add] at Hz
 have m0 := MemOk.start (fun _ => False) w0
 refine regS Hz (.assign rfl <| .nil) ?_
 clear Hz Az; intro Az Hz
 refine wp_seq_k (fun K0 hK0 => ?_)
 refine regS Hz (.move rfl <| .nil) ?_
 clear Hz Az; intro Az Hz
 refine bool_cases Hz (t := 3) rfl ?_ ?_
 ·
  clear Hz; intro hb3 Hz
  try simp only [Q1x, Q2x, Q3x, Q4x, Q5x, Q6x, Q7x, Q8x, Q9x, Q0x, Qax, Qbx] at hb3
  have h0 : ok = true := by simpa using hb3
  refine wp_cond_true (Hz.ev (x := .tmp 3) rfl) ?_
  refine regS Hz (.assign rfl <| .nil) ?_
  clear Hz Az; intro Az Hz
  refine wp_ret ?_
  try dsimp only [Exit.then, Exit.inBlock]
  refine (ret1 (fn := Tryd.f10) Hz rfl rfl ?_)
  exact ⟨by simp [bitI, h0], m0.below⟩
 ·
  clear Hz; intro hb3 Hz
  try simp only [Q1x, Q2x, Q3x, Q4x, Q5x, Q6x, Q7x, Q8x, Q9x, Q0x, Qax, Qbx] at hb3
  have h0 : ok = false := by simpa using hb3
  refine wp_cond_false (Hz.ev (x := .tmp 3) rfl) ?_
  refine wp_skip ?_
  refine hK0 _ _ ?_; clear hK0; try clear K0
  refine regS Hz (.assign rfl <| .nil) ?_
  clear Hz Az; intro Az Hz
  refine wp_ret ?_
  try dsimp only [Exit.then, Exit.inBlock]
  refine (ret1 (fn := Tryd.f10) Hz rfl rfl ?_)
  exact ⟨by simp [bitI, h0], m0.below⟩
theorem headOf_x (m : MV) (pe p2 p3 p4 : Option Addr) (ce c2 c3 c4 : Nat) (w0 : World) :
   Calls Tryd.prog 20 #[.agg #[.int .i64 m.k, .int .i64 m.g, .int .i64 m.f, .int .i64 m.t, .int .i64 m.n.te, .int .i64 m.n.ix, .int .i64 m.n.lt, .int .i64 m.n.co, .bool m.n.ok, .slice pe 0 ce, .int .i64 m.bi, .int .i64 m.bt, .slice p2 m.cf.length c2, .slice p3 m.bd.length c3, .slice p4 m.da.length c4, .int .i64 m.n.vo, .int .i64 m.n.ch, .int .i64 m.n.ma, .int .i64 m.n.fl]] w0 fun e w' => e = .returned (.agg #[.int .i64 m.k, .int .i64 m.g, .int .i64 m.f, .int .i64 m.t, .int .i64 m.n.te, .int .i64 m.n.ix, .int .i64 m.n.lt, .int .i64 m.n.co, .bool m.n.ok, .int .i64 m.n.vo, .int .i64 m.n.ch, .int .i64 m.n.ma, .int .i64 m.n.fl]) ∧ Below w0.heap.size w0 w' := by
 refine enter (fn := Tryd.f20) Tryd.func20 rfl Tryd.ntmps20 rfl (fun Az Hz => ?_)
 simp only [List.zipIdx_cons, List.zipIdx_nil, List.map_cons, List.map_nil, Nat.reduceAdd, Nat.zero_add] at Hz
 have m0 := MemOk.start (fun _ => False) w0
 refine wp_seq_k (fun K0 hK0 => ?_)
 refine wp_region_lit ?_
 refine wpList_plain rfl (fun K hK => ?_)
 refine e_box Hz m0 20 (cs := [_, _, _, _, _, _, _, _, _, _, _, _, _, _, _, _, _, _, _]) rfl rfl rfl ?_
 clear Hz Az m0; intro g1 Az w2 Hz m2 hB2 hg2
 clear hB2 hg2
 refine hK _ _ ?_; clear hK K
 refine wpList_plain rfl (fun K hK => ?_)
 refine e_alloc Hz m2 21 zc57mho rfl ?_
 clear Hz Az m2; intro g3 Az w4 Hz m4 hB4 hg4
 clear hB4 hg4
 refine hK _ _ ?_; clear hK K
 refine wpList_nil ?_
 refine hK0 _ _ ?_; clear hK0; try clear K0
 refine wp_seq_k (fun K1 hK1 => ?_)
 refine wp_region_lit ?_
 refine goCh Hz (.fieldAddr (off := 4) rfl Tryd.underlying30 rfl (s := 0) (by kernel_rfl) rfl <| .loadB1 m4 (i := 20) rfl rfl rfl Tryd.underlying3 rfl <| .fieldAddr (off := 5) rfl Tryd.underlying30 rfl (s := 0) (by kernel_rfl) rfl <| .loadB1 m4 (i := 20) rfl rfl rfl Tryd.underlying3 rfl <| .fieldAddr (off := 6) rfl Tryd.underlying30 rfl (s := 0) (by kernel_rfl) rfl <| .loadB1 m4 (i := 20) rfl rfl rfl Tryd.underlying3 rfl <| .fieldAddr (off := 7) rfl Tryd.underlying30 rfl (s := 0) (by kernel_rfl) rfl <| .loadB1 m4 (i := 20) rfl rfl rfl Tryd.underlying3 rfl <| .fieldAddr (off := 8) rfl Tryd.underlying30 rfl (s := 0) (by kernel_rfl) rfl <| .loadB1 m4 (i := 20) rfl rfl rfl Tryd.underlying4 rfl <| .fieldAddr (off := 15) rfl Tryd.underlying30 rfl (s := 0) (by kernel_rfl) rfl <| .loadB1 m4 (i := 20) rfl rfl rfl Tryd.underlying3 rfl <| .fieldAddr (off := 16) rfl Tryd.underlying30 rfl (s := 0) (by kernel_rfl) rfl <| .loadB1 m4 (i := 20) rfl rfl rfl Tryd.underlying3 rfl <| .fieldAddr (off := 17) rfl Tryd.underlying30 rfl (s := 0) (by kernel_rfl) rfl <| .loadB1 m4 (i := 20) rfl rfl rfl Tryd.underlying2 rfl <| .fieldAddr (off := 18) rfl Tryd.underlying30 rfl (s := 0) (by kernel_rfl) rfl <| .loadB1 m4 (i := 20) rfl rfl rfl Tryd.underlying2 rfl <| .build rfl zc55mho fl55mho rfl (by dsimp only [setL, List.set] <;> rfl) <| .nil) ?_
 clear Hz Az; intro Az Hz
 refine wpList_plain rfl (fun K hK => ?_)
 refine e_alloc Hz m4 22 zc55mho rfl ?_
 clear Hz Az m4; intro g43 Az w44 Hz m44 hB44 hg44
 clear hB44 hg44
 refine hK _ _ ?_; clear hK K
 refine wpList_plain rfl (fun K hK => ?_)
 refine e_storeW Hz m44 22 rfl rfl rfl rfl rfl sz55mho ?_
 clear m44; intro w45 m45 hB45
 clear hB45
 refine hK _ _ ?_; clear hK K
 refine wpList_nil ?_
 refine hK1 _ _ ?_; clear hK1; try clear K1
 replace Hz : Has 33 [(1, _), (2, _), (3, _)] Az := Hz.only [1, 2, 3]
 refine wp_seq_k (fun K2 hK2 => ?_)
 refine wp_region_lit ?_
 refine goCh Hz (.fieldAddr (off := 0) rfl Tryd.underlying30 rfl (s := 0) (by kernel_rfl) rfl <| .loadB1 m45 (i := 20) rfl rfl rfl Tryd.underlying3 rfl <| .fieldAddr (off := 1) rfl Tryd.underlying30 rfl (s := 0) (by kernel_rfl) rfl <| .loadB1 m45 (i := 20) rfl rfl rfl Tryd.underlying3 rfl <| .fieldAddr (off := 2) rfl Tryd.underlying30 rfl (s := 0) (by kernel_rfl) rfl <| .loadB1 m45 (i := 20) rfl rfl rfl Tryd.underlying3 rfl <| .fieldAddr (off := 3) rfl Tryd.underlying30 rfl (s := 0) (by kernel_rfl) rfl <| .loadB1 m45 (i := 20) rfl rfl rfl Tryd.underlying3 rfl <| .loadBR m45 (i := 22) rfl rfl Tryd.underlying55 rfl sz55mho (by simp) (by dsimp only [List.drop, List.take] <;> rfl) <| .buildG rfl zc57mho ps57mho rfl <| .nil) ?_
 clear Hz Az; intro Az Hz
 refine wpList_plain rfl (fun K hK => ?_)
 refine e_storeW Hz m45 21 rfl rfl rfl rfl rfl sz57mho ?_
 clear m45; intro w67 m67 hB67
 clear hB67
 refine hK _ _ ?_; clear hK K
 refine wpList_nil ?_
 refine hK2 _ _ ?_; clear hK2; try clear K2
 refine wp_ret ?_
 try dsimp only [Exit.then, Exit.inBlock]
 refine (retC (fn := Tryd.f20) Hz m67 (i := 21) rfl rfl rfl Tryd.underlying57 rfl sz57mho ?_)
 exact ⟨rfl, m67.below⟩
theorem named_x (k : Int) (n : NV) (w0 : World) :
   Calls Tryd.prog 24 #[.int .i64 k, .agg #[.int .i64 n.te, .int .i64 n.ix, .int .i64 n.lt, .int .i64 n.co, .bool n.ok, .int .i64 n.vo, .int .i64 n.ch, .int .i64 n.ma, .int .i64 n.fl]] w0 fun e w' => ∃ (N : NV) (b : Bool), namedV k n = N ∧ namedB k = b ∧ e = .returned (.tuple #[.agg #[.int .i64 N.te, .int .i64 N.ix, .int .i64 N.lt, .int .i64 N.co, .bool N.ok, .int .i64 N.vo, .int .i64 N.ch, .int .i64 N.ma, .int .i64 N.fl], .bool b]) ∧ Below w0.heap.size w0 w' := by
 refine enter (fn := Tryd.f24) Tryd.func24 rfl Tryd.ntmps24 rfl (fun Az Hz => ?_)
 simp only [List.zipIdx_cons, List.zipIdx_nil, List.map_cons, List.map_nil, Nat.reduceAdd, Nat.zero_add] at Hz
 have m0 := MemOk.start (fun _ => False) w0
 refine wp_seq_k (fun K0 hK0 => ?_)
 refine wp_region_lit ?_
 refine wpList_plain rfl (fun K hK => ?_)
 refine e_box Hz m0 20 (cs := [_, _, _, _, _, _, _, _, _]) rfl rfl rfl ?_
 clear Hz Az m0; intro g1 Az w2 Hz m2 hB2 hg2
 clear hB2 hg2
 refine hK _ _ ?_; clear hK K
 refine wpList_plain rfl (fun K hK => ?_)
 refine e_alloc Hz m2 21 zc55mna rfl ?_
 clear Hz Az m2; intro g3 Az w4 Hz m4 hB4 hg4
 clear hB4 hg4
 refine hK _ _ ?_; clear hK K
 refine goCh Hz (.assign rfl .nil) ?_
 clear Hz Az; intro Az Hz
 refine wpList_nil ?_
 refine hK0 _ _ ?_; clear hK0; try clear K0
 refine wp_seq_k (fun K1 hK1 => ?_)
 refine regS Hz (.move rfl <| .nil) ?_
 clear Hz Az; intro Az Hz
 refine wp_block ?_
 refine wp_seq_k (fun K2 hK2 => ?_)
 refine regS Hz (.eql rfl rfl <| .assign rfl <| .nil) ?_
 clear Hz Az; intro Az Hz
 refine bool_cases Hz (t := 7) rfl ?_ ?_
 ·
  clear Hz; intro hb9 Hz
  try simp only [Q1x, Q2x, Q3x, Q4x, Q5x, Q6x, Q7x, Q8x, Q9x, Q0x, Qax, Qbx] at hb9
  have hk1 : k = 1 := by have := hb9; first | omega | (simp at this; omega)
  refine wp_cond_true (Hz.ev (x := .tmp 7) rfl) ?_
  refine wp_skip ?_
  refine hK2 _ _ ?_; clear hK2; try clear K2
  refine wp_cond_true (Hz.ev (x := .tmp 7) rfl) ?_
  refine wp_seq_k (fun K3 hK3 => ?_)
  refine wp_region_lit ?_
  refine goCh Hz (.fieldAddr (off := 0) rfl Tryd.underlying55 rfl (s := 0) (by kernel_rfl) rfl <| .loadB1 m4 (i := 20) rfl rfl rfl Tryd.underlying3 rfl <| .fieldAddr (off := 1) rfl Tryd.underlying55 rfl (s := 0) (by kernel_rfl) rfl <| .loadB1 m4 (i := 20) rfl rfl rfl Tryd.underlying3 rfl <| .fieldAddr (off := 2) rfl Tryd.underlying55 rfl (s := 0) (by kernel_rfl) rfl <| .loadB1 m4 (i := 20) rfl rfl rfl Tryd.underlying3 rfl <| .build rfl zc55mna fl55mna rfl (by dsimp only [setL, List.set] <;> rfl) <| .nil) ?_
  clear Hz Az; intro Az Hz
  refine wpList_plain rfl (fun K hK => ?_)
  refine e_storeW Hz m4 21 rfl rfl rfl rfl rfl sz55mna ?_
  clear m4; intro w24 m24 hB24
  clear hB24
  refine hK _ _ ?_; clear hK K
  refine goCh Hz (.assign rfl .nil) ?_
  clear Hz Az; intro Az Hz
  refine wpList_nil ?_
  refine hK3 _ _ ?_; clear hK3; try clear K3
  refine wp_ret ?_
  try dsimp only [Exit.then, Exit.inBlock]
  refine (retCT (fn := Tryd.f24) Hz m24 (i := 21) rfl rfl rfl rfl Tryd.underlying55 rfl sz55mna ?_)
  have hB : namedB k = true := by unfold namedB; simp; omega
  have hN : namedV k n = ⟨n.te, n.ix, n.lt, 0, false, 0, 0, 0, 0⟩ := by unfold namedV; simp [*]
  exact ⟨_, _, hN, hB, rfl, m24.below⟩
 ·
  clear Hz; intro hb9 Hz
  try simp only [Q1x, Q2x, Q3x, Q4x, Q5x, Q6x, Q7x, Q8x, Q9x, Q0x, Qax, Qbx] at hb9
  have hk1 : ¬ k = 1 := by have := hb9; first | omega | (simp at this; omega)
  refine wp_cond_false (Hz.ev (x := .tmp 7) rfl) ?_
  refine wp_region_lit ?_
  refine goCh Hz (.eql rfl rfl <| .assign rfl <| .nil) ?_
  clear Hz Az; intro Az Hz
  refine wpList_nil ?_
  refine hK2 _ _ ?_; clear hK2; try clear K2
  refine bool_cases Hz (t := 7) rfl ?_ ?_
  ·
   clear Hz; intro hb28 Hz
   try simp only [Q1x, Q2x, Q3x, Q4x, Q5x, Q6x, Q7x, Q8x, Q9x, Q0x, Qax, Qbx] at hb28
   have hk3 : k = 3 := by have := hb28; first | omega | (simp at this; omega)
   refine wp_cond_true (Hz.ev (x := .tmp 7) rfl) ?_
   refine wp_seq_k (fun K4 hK4 => ?_)
   refine wp_region_lit ?_
   refine goCh Hz (.fieldAddr (off := 0) rfl Tryd.underlying55 rfl (s := 0) (by kernel_rfl) rfl <| .loadB1 m4 (i := 20) rfl rfl rfl Tryd.underlying3 rfl <| .fieldAddr (off := 1) rfl Tryd.underlying55 rfl (s := 0) (by kernel_rfl) rfl <| .loadB1 m4 (i := 20) rfl rfl rfl Tryd.underlying3 rfl <| .fieldAddr (off := 2) rfl Tryd.underlying55 rfl (s := 0) (by kernel_rfl) rfl <| .loadB1 m4 (i := 20) rfl rfl rfl Tryd.underlying3 rfl <| .build rfl zc55mna fl55mna rfl (by dsimp only [setL, List.set] <;> rfl) <| .nil) ?_
   clear Hz Az; intro Az Hz
   refine wpList_plain rfl (fun K hK => ?_)
   refine e_storeW Hz m4 21 rfl rfl rfl rfl rfl sz55mna ?_
   clear m4; intro w43 m43 hB43
   clear hB43
   refine hK _ _ ?_; clear hK K
   refine goCh Hz (.assign rfl .nil) ?_
   clear Hz Az; intro Az Hz
   refine wpList_nil ?_
   refine hK4 _ _ ?_; clear hK4; try clear K4
   refine wp_ret ?_
   try dsimp only [Exit.then, Exit.inBlock]
   refine (retCT (fn := Tryd.f24) Hz m43 (i := 21) rfl rfl rfl rfl Tryd.underlying55 rfl sz55mna ?_)
   have hB : namedB k = true := by unfold namedB; simp; omega
   have hN : namedV k n = ⟨n.te, n.ix, n.lt, 0, false, 0, 0, 0, 0⟩ := by unfold namedV; simp [*]
   exact ⟨_, _, hN, hB, rfl, m43.below⟩
  ·
   clear Hz; intro hb28 Hz
   try simp only [Q1x, Q2x, Q3x, Q4x, Q5x, Q6x, Q7x, Q8x, Q9x, Q0x, Qax, Qbx] at hb28
   have hk3 : ¬ k = 3 := by have := hb28; first | omega | (simp at this; omega)
   refine wp_cond_false (Hz.ev (x := .tmp 7) rfl) ?_
   refine wp_seq_k (fun K5 hK5 => ?_)
   refine regS Hz (.eql rfl rfl <| .assign rfl <| .nil) ?_
   clear Hz Az; intro Az Hz
   refine bool_cases Hz (t := 17) rfl ?_ ?_
   ·
    clear Hz; intro hb47 Hz
    try simp only [Q1x, Q2x, Q3x, Q4x, Q5x, Q6x, Q7x, Q8x, Q9x, Q0x, Qax, Qbx] at hb47
    have hk2 : k = 2 := by have := hb47; first | omega | (simp at this; omega)
    refine wp_cond_true (Hz.ev (x := .tmp 17) rfl) ?_
    refine wp_skip ?_
    refine hK5 _ _ ?_; clear hK5; try clear K5
    refine wp_cond_true (Hz.ev (x := .tmp 17) rfl) ?_
    replace Hz : Has 65 [(3, _), (4, _), (5, _), (6, _)] Az := Hz.only [3, 4, 5, 6]
    refine wp_seq_k (fun K6 hK6 => ?_)
    refine wp_region_lit ?_
    refine goCh Hz (.fieldAddr (off := 0) rfl Tryd.underlying55 rfl (s := 0) (by kernel_rfl) rfl <| .loadB1 m4 (i := 20) rfl rfl rfl Tryd.underlying3 rfl <| .fieldAddr (off := 4) rfl Tryd.underlying55 rfl (s := 0) (by kernel_rfl) rfl <| .loadB1 m4 (i := 20) rfl rfl rfl Tryd.underlying4 rfl <| .build rfl zc55mna fl55mna rfl (by dsimp only [setL, List.set] <;> rfl) <| .nil) ?_
    clear Hz Az; intro Az Hz
    refine wpList_plain rfl (fun K hK => ?_)
    refine e_storeW Hz m4 21 rfl rfl rfl rfl rfl sz55mna ?_
    clear m4; intro w59 m59 hB59
    clear hB59
    refine hK _ _ ?_; clear hK K
    refine goCh Hz (.assign rfl .nil) ?_
    clear Hz Az; intro Az Hz
    refine wpList_nil ?_
    refine hK6 _ _ ?_; clear hK6; try clear K6
    refine wp_ret ?_
    try dsimp only [Exit.then, Exit.inBlock]
    refine (retCT (fn := Tryd.f24) Hz m59 (i := 21) rfl rfl rfl rfl Tryd.underlying55 rfl sz55mna ?_)
    have hB : namedB k = true := by unfold namedB; simp; omega
    have hN : namedV k n = ⟨n.te, 0, 0, 0, n.ok, 0, 0, 0, 0⟩ := by unfold namedV; simp [*]
    exact ⟨_, _, hN, hB, rfl, m59.below⟩
   ·
    clear Hz; intro hb47 Hz
    try simp only [Q1x, Q2x, Q3x, Q4x, Q5x, Q6x, Q7x, Q8x, Q9x, Q0x, Qax, Qbx] at hb47
    have hk2 : ¬ k = 2 := by have := hb47; first | omega | (simp at this; omega)
    refine wp_cond_false (Hz.ev (x := .tmp 17) rfl) ?_
    replace Hz : Has 65 [(3, _), (4, _), (5, _), (6, _), (17, _)] Az := Hz.only [3, 4, 5, 6, 17]
    refine wp_region_lit ?_
    refine goCh Hz (.eql rfl rfl <| .assign rfl <| .nil) ?_
    clear Hz Az; intro Az Hz
    refine wpList_nil ?_
    refine hK5 _ _ ?_; clear hK5; try clear K5
    refine bool_cases Hz (t := 17) rfl ?_ ?_
    ·
     clear Hz; intro hb64 Hz
     try simp only [Q1x, Q2x, Q3x, Q4x, Q5x, Q6x, Q7x, Q8x, Q9x, Q0x, Qax, Qbx] at hb64
     have hk4 : k = 4 := by have := hb64; first | omega | (simp at this; omega)
     refine wp_cond_true (Hz.ev (x := .tmp 17) rfl) ?_
     refine wp_seq_k (fun K7 hK7 => ?_)
     refine wp_region_lit ?_
     refine goCh Hz (.fieldAddr (off := 0) rfl Tryd.underlying55 rfl (s := 0) (by kernel_rfl) rfl <| .loadB1 m4 (i := 20) rfl rfl rfl Tryd.underlying3 rfl <| .fieldAddr (off := 4) rfl Tryd.underlying55 rfl (s := 0) (by kernel_rfl) rfl <| .loadB1 m4 (i := 20) rfl rfl rfl Tryd.underlying4 rfl <| .build rfl zc55mna fl55mna rfl (by dsimp only [setL, List.set] <;> rfl) <| .nil) ?_
     clear Hz Az; intro Az Hz
     refine wpList_plain rfl (fun K hK => ?_)
     refine e_storeW Hz m4 21 rfl rfl rfl rfl rfl sz55mna ?_
     clear m4; intro w75 m75 hB75
     clear hB75
     refine hK _ _ ?_; clear hK K
     refine goCh Hz (.assign rfl .nil) ?_
     clear Hz Az; intro Az Hz
     refine wpList_nil ?_
     refine hK7 _ _ ?_; clear hK7; try clear K7
     refine wp_ret ?_
     try dsimp only [Exit.then, Exit.inBlock]
     refine (retCT (fn := Tryd.f24) Hz m75 (i := 21) rfl rfl rfl rfl Tryd.underlying55 rfl sz55mna ?_)
     have hB : namedB k = true := by unfold namedB; simp; omega
     have hN : namedV k n = ⟨n.te, 0, 0, 0, n.ok, 0, 0, 0, 0⟩ := by unfold namedV; simp [*]
     exact ⟨_, _, hN, hB, rfl, m75.below⟩
    ·
     clear Hz; intro hb64 Hz
     try simp only [Q1x, Q2x, Q3x, Q4x, Q5x, Q6x, Q7x, Q8x, Q9x, Q0x, Qax, Qbx] at hb64
     have hk4 : ¬ k = 4 := by have := hb64; first | omega | (simp at this; omega)
     refine wp_cond_false (Hz.ev (x := .tmp 17) rfl) ?_
     refine regS Hz (.eql rfl rfl <| .assign rfl <| .nil) ?_
     clear Hz Az; intro Az Hz
     refine bool_cases Hz (t := 25) rfl ?_ ?_
     ·
      clear Hz; intro hb79 Hz
      try simp only [Q1x, Q2x, Q3x, Q4x, Q5x, Q6x, Q7x, Q8x, Q9x, Q0x, Qax, Qbx] at hb79
      have hk5 : k = 5 := by have := hb79; first | omega | (simp at this; omega)
      refine wp_cond_true (Hz.ev (x := .tmp 25) rfl) ?_
      refine wp_seq_k (fun K8 hK8 => ?_)
      refine wp_region_lit ?_
      refine goCh Hz (.fieldAddr (off := 0) rfl Tryd.underlying55 rfl (s := 0) (by kernel_rfl) rfl <| .loadB1 m4 (i := 20) rfl rfl rfl Tryd.underlying3 rfl <| .fieldAddr (off := 1) rfl Tryd.underlying55 rfl (s := 0) (by kernel_rfl) rfl <| .loadB1 m4 (i := 20) rfl rfl rfl Tryd.underlying3 rfl <| .fieldAddr (off := 2) rfl Tryd.underlying55 rfl (s := 0) (by kernel_rfl) rfl <| .loadB1 m4 (i := 20) rfl rfl rfl Tryd.underlying3 rfl <| .fieldAddr (off := 3) rfl Tryd.underlying55 rfl (s := 0) (by kernel_rfl) rfl <| .loadB1 m4 (i := 20) rfl rfl rfl Tryd.underlying3 rfl <| .build rfl zc55mna fl55mna rfl (by dsimp only [setL, List.set] <;> rfl) <| .nil) ?_
      clear Hz Az; intro Az Hz
      refine wpList_plain rfl (fun K hK => ?_)
      refine e_storeW Hz m4 21 rfl rfl rfl rfl rfl sz55mna ?_
      clear m4; intro w98 m98 hB98
      clear hB98
      refine hK _ _ ?_; clear hK K
      refine goCh Hz (.assign rfl .nil) ?_
      clear Hz Az; intro Az Hz
      refine wpList_nil ?_
      refine hK8 _ _ ?_; clear hK8; try clear K8
      refine wp_ret ?_
      try dsimp only [Exit.then, Exit.inBlock]
      refine (retCT (fn := Tryd.f24) Hz m98 (i := 21) rfl rfl rfl rfl Tryd.underlying55 rfl sz55mna ?_)
      have hB : namedB k = true := by unfold namedB; simp; omega
      have hN : namedV k n = ⟨n.te, n.ix, n.lt, n.co, false, 0, 0, 0, 0⟩ := by unfold namedV; simp [*]
      exact ⟨_, _, hN, hB, rfl, m98.below⟩
     ·
      clear Hz; intro hb79 Hz
      try simp only [Q1x, Q2x, Q3x, Q4x, Q5x, Q6x, Q7x, Q8x, Q9x, Q0x, Qax, Qbx] at hb79
      have hk5 : ¬ k = 5 := by have := hb79; first | omega | (simp at this; omega)
      refine wp_cond_false (Hz.ev (x := .tmp 25) rfl) ?_
      refine regS Hz (.eql rfl rfl <| .assign rfl <| .nil) ?_
      clear Hz Az; intro Az Hz
      refine bool_cases Hz (t := 36) rfl ?_ ?_
      ·
       clear Hz; intro hb102 Hz
       try simp only [Q1x, Q2x, Q3x, Q4x, Q5x, Q6x, Q7x, Q8x, Q9x, Q0x, Qax, Qbx] at hb102
       have hk6 : k = 6 := by have := hb102; first | omega | (simp at this; omega)
       refine wp_cond_true (Hz.ev (x := .tmp 36) rfl) ?_
       replace Hz : Has 65 [(3, _), (4, _), (5, _), (6, _)] Az := Hz.only [3, 4, 5, 6]
       refine wp_seq_k (fun K9 hK9 => ?_)
       refine wp_region_lit ?_
       refine goCh Hz (.fieldAddr (off := 0) rfl Tryd.underlying55 rfl (s := 0) (by kernel_rfl) rfl <| .loadB1 m4 (i := 20) rfl rfl rfl Tryd.underlying3 rfl <| .fieldAddr (off := 4) rfl Tryd.underlying55 rfl (s := 0) (by kernel_rfl) rfl <| .loadB1 m4 (i := 20) rfl rfl rfl Tryd.underlying4 rfl <| .fieldAddr (off := 1) rfl Tryd.underlying55 rfl (s := 0) (by kernel_rfl) rfl <| .loadB1 m4 (i := 20) rfl rfl rfl Tryd.underlying3 rfl <| .build rfl zc55mna fl55mna rfl (by dsimp only [setL, List.set] <;> rfl) <| .nil) ?_
       clear Hz Az; intro Az Hz
       refine wpList_plain rfl (fun K hK => ?_)
       refine e_storeW Hz m4 21 rfl rfl rfl rfl rfl sz55mna ?_
       clear m4; intro w118 m118 hB118
       clear hB118
       refine hK _ _ ?_; clear hK K
       refine goCh Hz (.assign rfl .nil) ?_
       clear Hz Az; intro Az Hz
       refine wpList_nil ?_
       refine hK9 _ _ ?_; clear hK9; try clear K9
       refine wp_ret ?_
       try dsimp only [Exit.then, Exit.inBlock]
       refine (retCT (fn := Tryd.f24) Hz m118 (i := 21) rfl rfl rfl rfl Tryd.underlying55 rfl sz55mna ?_)
       have hB : namedB k = true := by unfold namedB; simp; omega
       have hN : namedV k n = ⟨n.te, n.ix, 0, 0, n.ok, 0, 0, 0, 0⟩ := by unfold namedV; simp [*]
       exact ⟨_, _, hN, hB, rfl, m118.below⟩
      ·
       clear Hz; intro hb102 Hz
       try simp only [Q1x, Q2x, Q3x, Q4x, Q5x, Q6x, Q7x, Q8x, Q9x, Q0x, Qax, Qbx] at hb102
       have hk6 : ¬ k = 6 := by have := hb102; first | omega | (simp at this; omega)
       refine wp_cond_false (Hz.ev (x := .tmp 36) rfl) ?_
       replace Hz : Has 65 [(3, _), (4, _), (5, _), (6, _)] Az := Hz.only [3, 4, 5, 6]
       refine regS Hz (.eql rfl rfl <| .assign rfl <| .nil) ?_
       clear Hz Az; intro Az Hz
       refine bool_cases Hz (t := 45) rfl ?_ ?_
       ·
        clear Hz; intro hb123 Hz
        try simp only [Q1x, Q2x, Q3x, Q4x, Q5x, Q6x, Q7x, Q8x, Q9x, Q0x, Qax, Qbx] at hb123
        have hk7 : k = 7 := by have := hb123; first | omega | (simp at this; omega)
        refine wp_cond_true (Hz.ev (x := .tmp 45) rfl) ?_
        refine wp_seq_k (fun K10 hK10 => ?_)
        refine wp_region_lit ?_
        refine goCh Hz (.fieldAddr (off := 0) rfl Tryd.underlying55 rfl (s := 0) (by kernel_rfl) rfl <| .loadB1 m4 (i := 20) rfl rfl rfl Tryd.underlying3 rfl <| .build rfl zc55mna fl55mna rfl (by dsimp only [setL, List.set] <;> rfl) <| .nil) ?_
        clear Hz Az; intro Az Hz
        refine wpList_plain rfl (fun K hK => ?_)
        refine e_storeW Hz m4 21 rfl rfl rfl rfl rfl sz55mna ?_
        clear m4; intro w130 m130 hB130
        clear hB130
        refine hK _ _ ?_; clear hK K
        refine goCh Hz (.assign rfl .nil) ?_
        clear Hz Az; intro Az Hz
        refine wpList_nil ?_
        refine hK10 _ _ ?_; clear hK10; try clear K10
        refine wp_ret ?_
        try dsimp only [Exit.then, Exit.inBlock]
        refine (retCT (fn := Tryd.f24) Hz m130 (i := 21) rfl rfl rfl rfl Tryd.underlying55 rfl sz55mna ?_)
        have hB : namedB k = true := by unfold namedB; simp; omega
        have hN : namedV k n = ⟨n.te, 0, 0, 0, false, 0, 0, 0, 0⟩ := by unfold namedV; simp [*]
        exact ⟨_, _, hN, hB, rfl, m130.below⟩
       ·
        clear Hz; intro hb123 Hz
        try simp only [Q1x, Q2x, Q3x, Q4x, Q5x, Q6x, Q7x, Q8x, Q9x, Q0x, Qax, Qbx] at hb123
        have hk7 : ¬ k = 7 := by have := hb123; first | omega | (simp at this; omega)
        refine wp_cond_false (Hz.ev (x := .tmp 45) rfl) ?_
        refine regS Hz (.eql rfl rfl <| .assign rfl <| .nil) ?_
        clear Hz Az; intro Az Hz
        refine bool_cases Hz (t := 50) rfl ?_ ?_
        ·
         clear Hz; intro hb134 Hz
         try simp only [Q1x, Q2x, Q3x, Q4x, Q5x, Q6x, Q7x, Q8x, Q9x, Q0x, Qax, Qbx] at hb134
         have hk8 : k = 8 := by have := hb134; first | omega | (simp at this; omega)
         refine wp_cond_true (Hz.ev (x := .tmp 50) rfl) ?_
         refine wp_seq_k (fun K11 hK11 => ?_)
         refine wp_region_lit ?_
         refine goCh Hz (.build rfl zc55mna fl55mna rfl (by dsimp only [setL, List.set] <;> rfl) .nil) ?_
         clear Hz Az; intro Az Hz
         refine wpList_plain rfl (fun K hK => ?_)
         refine e_storeW Hz m4 21 rfl rfl rfl rfl rfl sz55mna ?_
         clear m4; intro w137 m137 hB137
         clear hB137
         refine hK _ _ ?_; clear hK K
         refine goCh Hz (.assign rfl .nil) ?_
         clear Hz Az; intro Az Hz
         refine wpList_nil ?_
         refine hK11 _ _ ?_; clear hK11; try clear K11
         refine wp_ret ?_
         try dsimp only [Exit.then, Exit.inBlock]
         refine (retCT (fn := Tryd.f24) Hz m137 (i := 21) rfl rfl rfl rfl Tryd.underlying55 rfl sz55mna ?_)
         have hB : namedB k = true := by unfold namedB; simp; omega
         have hN : namedV k n = ⟨0, 0, 0, 0, false, 0, 0, 0, 0⟩ := by unfold namedV; simp [*]
         exact ⟨_, _, hN, hB, rfl, m137.below⟩
        ·
         clear Hz; intro hb134 Hz
         try simp only [Q1x, Q2x, Q3x, Q4x, Q5x, Q6x, Q7x, Q8x, Q9x, Q0x, Qax, Qbx] at hb134
         have hk8 : ¬ k = 8 := by have := hb134; first | omega | (simp at this; omega)
         refine wp_cond_false (Hz.ev (x := .tmp 50) rfl) ?_
         refine regS Hz (.eql rfl rfl <| .assign rfl <| .nil) ?_
         clear Hz Az; intro Az Hz
         refine bool_cases Hz (t := 53) rfl ?_ ?_
         ·
          clear Hz; intro hb141 Hz
          try simp only [Q1x, Q2x, Q3x, Q4x, Q5x, Q6x, Q7x, Q8x, Q9x, Q0x, Qax, Qbx] at hb141
          have hk9 : k = 9 := by have := hb141; first | omega | (simp at this; omega)
          refine wp_cond_true (Hz.ev (x := .tmp 53) rfl) ?_
          replace Hz : Has 65 [(3, _), (4, _), (5, _)] Az := Hz.only [3, 4, 5]
          refine wp_seq_k (fun K12 hK12 => ?_)
          refine wp_region_lit ?_
          refine goCh Hz (.fieldAddr (off := 5) rfl Tryd.underlying55 rfl (s := 0) (by kernel_rfl) rfl <| .loadB1 m4 (i := 20) rfl rfl rfl Tryd.underlying3 rfl <| .fieldAddr (off := 6) rfl Tryd.underlying55 rfl (s := 0) (by kernel_rfl) rfl <| .loadB1 m4 (i := 20) rfl rfl rfl Tryd.underlying3 rfl <| .fieldAddr (off := 7) rfl Tryd.underlying55 rfl (s := 0) (by kernel_rfl) rfl <| .loadB1 m4 (i := 20) rfl rfl rfl Tryd.underlying2 rfl <| .fieldAddr (off := 8) rfl Tryd.underlying55 rfl (s := 0) (by kernel_rfl) rfl <| .loadB1 m4 (i := 20) rfl rfl rfl Tryd.underlying2 rfl <| .build rfl zc55mna fl55mna rfl (by dsimp only [setL, List.set] <;> rfl) <| .nil) ?_
          clear Hz Az; intro Az Hz
          refine wpList_plain rfl (fun K hK => ?_)
          refine e_storeW Hz m4 21 rfl rfl rfl rfl rfl sz55mna ?_
          clear m4; intro w161 m161 hB161
          clear hB161
          refine hK _ _ ?_; clear hK K
          refine goCh Hz (.assign rfl .nil) ?_
          clear Hz Az; intro Az Hz
          refine wpList_nil ?_
          refine hK12 _ _ ?_; clear hK12; try clear K12
          refine wp_ret ?_
          try dsimp only [Exit.then, Exit.inBlock]
          refine (retCT (fn := Tryd.f24) Hz m161 (i := 21) rfl rfl rfl rfl Tryd.underlying55 rfl sz55mna ?_)
          have hB : namedB k = true := by unfold namedB; simp; omega
          have hN : namedV k n = ⟨0, 0, 0, 0, false, n.vo, n.ch, n.ma, n.fl⟩ := by unfold namedV; simp [*]
          exact ⟨_, _, hN, hB, rfl, m161.below⟩
         ·
          clear Hz; intro hb141 Hz
          try simp only [Q1x, Q2x, Q3x, Q4x, Q5x, Q6x, Q7x, Q8x, Q9x, Q0x, Qax, Qbx] at hb141
          have hk9 : ¬ k = 9 := by have := hb141; first | omega | (simp at this; omega)
          refine wp_cond_false (Hz.ev (x := .tmp 53) rfl) ?_
          refine wp_skip ?_
          refine hK1 _ _ ?_; clear hK1; try clear K1
          replace Hz : Has 65 [(4, _), (5, _)] Az := Hz.only [4, 5]
          refine wp_seq_k (fun K13 hK13 => ?_)
          refine wp_region_lit ?_
          refine goCh Hz (.build rfl zc55mna fl55mna rfl (by dsimp only [setL, List.set] <;> rfl) .nil) ?_
          clear Hz Az; intro Az Hz
          refine wpList_plain rfl (fun K hK => ?_)
          refine e_storeW Hz m4 21 rfl rfl rfl rfl rfl sz55mna ?_
          clear m4; intro w166 m166 hB166
          clear hB166
          refine hK _ _ ?_; clear hK K
          refine goCh Hz (.assign rfl .nil) ?_
          clear Hz Az; intro Az Hz
          refine wpList_nil ?_
          refine hK13 _ _ ?_; clear hK13; try clear K13
          refine wp_ret ?_
          try dsimp only [Exit.then, Exit.inBlock]
          refine (retCT (fn := Tryd.f24) Hz m166 (i := 21) rfl rfl rfl rfl Tryd.underlying55 rfl sz55mna ?_)
          have hB : namedB k = false := by unfold namedB; simp; omega
          have hN : namedV k n = ⟨0, 0, 0, 0, false, 0, 0, 0, 0⟩ := by unfold namedV; simp [*]
          exact ⟨_, _, hN, hB, rfl, m166.below⟩
theorem numsR_x (n : NV) (w0 : World) :
   Calls Tryd.prog 25 #[.agg #[.int .i64 n.te, .int .i64 n.ix, .int .i64 n.lt, .int .i64 n.co, .bool n.ok, .int .i64 n.vo, .int .i64 n.ch, .int .i64 n.ma, .int .i64 n.fl]] w0 fun e w' => e = .returned (.bool (numsB n)) ∧ Below w0.heap.size w0 w' := by
 refine enter (fn := Tryd.f25) Tryd.func25 rfl Tryd.ntmps25 rfl (fun Az Hz => ?_)
 simp only [List.zipIdx_cons, List.zipIdx_nil, List.map_cons, List.map_nil, Nat.reduceAdd, Nat.zero_add] at Hz
 have m0 := MemOk.start (fun _ => False) w0
 refine wp_seq_k (fun K0 hK0 => ?_)
 refine wp_region_lit ?_
 refine wpList_plain rfl (fun K hK => ?_)
 refine e_box Hz m0 20 (cs := [_, _, _, _, _, _, _, _, _]) rfl rfl rfl ?_
 clear Hz Az m0; intro g1 Az w2 Hz m2 hB2 hg2
 clear hB2 hg2
 refine hK _ _ ?_; clear hK K
 refine goCh Hz (.assign rfl .nil) ?_
 clear Hz Az; intro Az Hz
 refine wpList_nil ?_
 refine hK0 _ _ ?_; clear hK0; try clear K0
 refine wp_seq_k (fun K1 hK1 => ?_)
 refine wp_seq_k (fun K2 hK2 => ?_)
 refine wp_region_lit ?_
 refine goCh Hz (.fieldAddr (off := 0) rfl Tryd.underlying55 rfl (s := 0) (by kernel_rfl) rfl <| .loadB1 m2 (i := 20) rfl rfl rfl Tryd.underlying3 rfl <| .fieldAddr (off := 1) rfl Tryd.underlying55 rfl (s := 0) (by kernel_rfl) rfl <| .loadB1 m2 (i := 20) rfl rfl rfl Tryd.underlying3 rfl <| .fieldAddr (off := 2) rfl Tryd.underlying55 rfl (s := 0) (by kernel_rfl) rfl <| .loadB1 m2 (i := 20) rfl rfl rfl Tryd.underlying3 rfl <| .fieldAddr (off := 3) rfl Tryd.underlying55 rfl (s := 0) (by kernel_rfl) rfl <| .loadB1 m2 (i := 20) rfl rfl rfl Tryd.underlying3 rfl <| .fieldAddr (off := 7) rfl Tryd.underlying55 rfl (s := 0) (by kernel_rfl) rfl <| .loadB1 m2 (i := 20) rfl rfl rfl Tryd.underlying2 rfl <| .fieldAddr (off := 8) rfl Tryd.underlying55 rfl (s := 0) (by kernel_rfl) rfl <| .loadB1 m2 (i := 20) rfl rfl rfl Tryd.underlying2 rfl <| .nil) ?_
 clear Hz Az; intro Az Hz
 refine wpList_plain rfl (fun K hK => ?_)
 refine e_litN Hz m2 21 (k := .i64) rfl rfl Tryd.underlying25 inf3mnr rfl rfl rfl rfl ?_
 clear Hz Az m2; intro g28 Az w29 Hz m29
 refine hK _ _ ?_; clear hK K
 refine goCh Hz (.len rfl Tryd.underlying25 <| .move rfl <| .nil) ?_
 clear Hz Az; intro Az Hz
 refine wpList_nil ?_
 refine hK2 _ _ ?_; clear hK2; try clear K2
 refine wp_block ?_
 refine wp_loop_ghost (fun g a w => ∃ (q B : Nat) (p : Option Addr) (c : Nat), q ≤ 6 ∧ g = 6 - q ∧ (∀ k, k < q → inB ((timesN n).getD k 0) 1099511627777 = true) ∧ Has 35 [(1, .pointer (some ⟨B, 0, none⟩)), (17, .slice p (timesN n).length c), (18, .int .i64 6), (19, .int .i64 (q : Int))] a ∧ MemOk (cx (fun _ => False) w0) w0 [(20, .box B 55 [.int .i64 n.te, .int .i64 n.ix, .int .i64 n.lt, .int .i64 n.co, .bool n.ok, .int .i64 n.vo, .int .i64 n.ch, .int .i64 n.ma, .int .i64 n.fl]), (21, .num (.slice p (timesN n).length c) 3 .i64 (timesN n))] w) (6) ?_ ?_
 · exact ⟨0, _, _, _, Nat.zero_le _, rfl, (fun k hk => absurd hk (Nat.not_lt_zero _)), Hz.only [1, 17, 18, 19], m29.ren [(20, 20), (21, 21)] (by decide)⟩
 ·
  clear Hz m29
  rintro g Az w32 ⟨q, B, p, c, hql, hg, hall, Hz, m32⟩
  refine regS Hz (.lss rfl rfl <| .nil) ?_
  clear Hz Az; intro Az Hz
  refine wp_seq_k (fun K3 hK3 => ?_)
  refine bool_cases Hz (t := 20) rfl ?_ ?_
  ·
   clear Hz; intro hb34 Hz
   try simp only [Q1x, Q2x, Q3x, Q4x, Q5x, Q6x, Q7x, Q8x, Q9x, Q0x, Qax, Qbx] at hb34
   have hq6 : q < 6 := by have := hb34; first | omega | (simp at this; omega)
   have hqs : q < (timesN n).length := hq6
   refine wp_cond_true (Hz.ev (x := .tmp 20) rfl) ?_
   refine wp_skip ?_
   refine hK3 _ _ ?_; clear hK3; try clear K3
   refine wp_seq_k (fun K4 hK4 => ?_)
   refine wp_block ?_
   refine wp_seq_k (fun K5 hK5 => ?_)
   refine wp_region_lit ?_
   obtain ⟨g36, hpg36⟩ := m32.openO (i := 21) rfl (Nat.lt_of_le_of_lt (Nat.zero_le _) hqs)
   cases hpg36
   refine goCh Hz (.c rfl (fun _ h_ => y_idxO h_ rfl rfl Tryd.underlying25 sz3mnr (q) rfl hqs) <| .c rfl (fun _ h_ => y_loadO h_ m32 (i := 21) rfl rfl rfl hqs Tryd.underlying3 rfl) <| .assign rfl <| .nil) ?_
   clear Hz Az; intro Az Hz
   refine wpList_nil ?_
   refine hK5 _ _ ?_; clear hK5; try clear K5
   refine wp_seq_k (fun K6 hK6 => ?_)
   refine wp_region_lit ?_
   refine goCh Hz (.move rfl .nil) ?_
   clear Hz Az; intro Az Hz
   refine wpList_plain rfl (fun K hK => ?_)
   refine e_call Hz Tryd.func27 rfl rfl rfl rfl (within_x _ _ _) ?_
   rintro e w42 ⟨rfl, hb42⟩
   have m43 := m32.later hb42
   clear m32
   clear hb42
   refine ⟨_, rfl, ?_⟩; clear Hz Az; intro Az Hz
   refine hK _ _ ?_; clear hK K
   refine goCh Hz (.not rfl .nil) ?_
   clear Hz Az; intro Az Hz
   refine wpList_nil ?_
   refine hK6 _ _ ?_; clear hK6; try clear K6
   refine bool_cases Hz (t := 25) rfl ?_ ?_
   ·
    clear Hz; intro hb46 Hz
    try simp only [Q1x, Q2x, Q3x, Q4x, Q5x, Q6x, Q7x, Q8x, Q9x, Q0x, Qax, Qbx] at hb46
    have hin : inB ((timesN n).getD q 0) 1099511627777 = false := by simpa using hb46
    refine wp_cond_true (Hz.ev (x := .tmp 25) rfl) ?_
    replace Hz : Has 35 [(1, _), (17, _), (18, _), (19, _)] Az := Hz.only [1, 17, 18, 19]
    refine regS Hz (.assign rfl <| .nil) ?_
    clear Hz Az; intro Az Hz
    refine wp_ret ?_
    try dsimp only [Exit.then, Exit.inBlock]
    refine (ret1 (fn := Tryd.f25) Hz rfl rfl ?_)
    exact ⟨by first | (rw [numsB_no hqs hin]; done) | (rw [numsB_all hall, hv]; simp), m43.below⟩
   ·
    clear Hz; intro hb46 Hz
    try simp only [Q1x, Q2x, Q3x, Q4x, Q5x, Q6x, Q7x, Q8x, Q9x, Q0x, Qax, Qbx] at hb46
    have hin : inB ((timesN n).getD q 0) 1099511627777 = true := by simpa using hb46
    refine wp_cond_false (Hz.ev (x := .tmp 25) rfl) ?_
    refine wp_skip ?_
    refine hK4 _ _ ?_; clear hK4; try clear K4
    replace Hz : Has 35 [(1, _), (17, _), (18, _), (19, _)] Az := Hz.only [1, 17, 18, 19]
    refine wp_region_lit ?_
    refine goCh Hz (.add rfl rfl (r := ((q + 1 : Nat) : Int)) (by rw [IntWalk.i64_in _ (by omega)]; omega) <| .move rfl <| .nil) ?_
    clear Hz Az; intro Az Hz
    refine wpList_nil ?_
    show ∃ n', n' < _ ∧ _
    exact ⟨6 - (q + 1), by omega, q + 1, _, _, _, by omega, rfl, (fun k hk => by
      rcases Nat.lt_succ_iff_lt_or_eq.1 hk with h9 | rfl
      · exact hall k h9
      · exact hin), Hz.only [1, 17, 18, 19], m43.ren [(20, 20), (21, 21)] (by decide)⟩
  ·
   clear Hz; intro hb34 Hz
   try simp only [Q1x, Q2x, Q3x, Q4x, Q5x, Q6x, Q7x, Q8x, Q9x, Q0x, Qax, Qbx] at hb34
   have hq6 : q = 6 := by have := hb34; first | omega | (simp at this; omega)
   subst hq6
   refine wp_cond_false (Hz.ev (x := .tmp 20) rfl) ?_
   refine wp_exit ?_
   refine hK1 _ _ ?_; clear hK1; try clear K1
   refine wp_seq_k (fun K7 hK7 => ?_)
   refine wp_region_lit ?_
   refine goCh Hz (.fieldAddr (off := 5) rfl Tryd.underlying55 rfl (s := 0) (by kernel_rfl) rfl <| .loadB1 m32 (i := 20) rfl rfl rfl Tryd.underlying3 rfl <| .nil) ?_
   clear Hz Az; intro Az Hz
   refine wpList_plain rfl (fun K hK => ?_)
   refine e_call Hz Tryd.func27 rfl rfl rfl rfl (within_x _ _ _) ?_
   rintro e w56 ⟨rfl, hb56⟩
   have m57 := m32.later hb56
   clear m32
   clear hb56
   refine ⟨_, rfl, ?_⟩; clear Hz Az; intro Az Hz
   refine hK _ _ ?_; clear hK K
   refine goCh Hz (.move rfl .nil) ?_
   clear Hz Az; intro Az Hz
   refine bool_cases Hz (t := 30) rfl ?_ ?_
   ·
    clear Hz; intro hb60 Hz
    try simp only [Q1x, Q2x, Q3x, Q4x, Q5x, Q6x, Q7x, Q8x, Q9x, Q0x, Qax, Qbx] at hb60
    have hv : inB n.vo 8 = true := by simpa using hb60
    refine goCh Hz (.fieldAddrZ (off := 6) rfl Tryd.underlying55 rfl (s := 0) (by kernel_rfl) rfl <| .loadB1Z m57 (i := 20) rfl rfl rfl Tryd.underlying3 rfl <| .nil) ?_
    clear Hz Az; intro Az Hz
    refine st_ge Hz rfl rfl rfl rfl (fun K hK => ?_)
    refine e_call Hz Tryd.func27 rfl rfl rfl rfl (within_x _ _ _) ?_
    rintro e w63 ⟨rfl, hb63⟩
    have m64 := m57.later hb63
    clear m57
    clear hb63
    refine ⟨_, rfl, ?_⟩; clear Hz Az; intro Az Hz
    refine hK _ _ ?_; clear hK K
    refine goCh Hz (.pickT rfl rfl <| .assign rfl <| .nil) ?_
    clear Hz Az; intro Az Hz
    refine wpList_nil ?_
    refine hK7 _ _ ?_; clear hK7; try clear K7
    refine wp_ret ?_
    try dsimp only [Exit.then, Exit.inBlock]
    refine (ret1 (fn := Tryd.f25) Hz rfl rfl ?_)
    exact ⟨by first | (rw [numsB_no hqs hin]; done) | (rw [numsB_all hall, hv]; simp), m64.below⟩
   ·
    clear Hz; intro hb60 Hz
    try simp only [Q1x, Q2x, Q3x, Q4x, Q5x, Q6x, Q7x, Q8x, Q9x, Q0x, Qax, Qbx] at hb60
    have hv : inB n.vo 8 = false := by simpa using hb60
    refine goCh Hz (.sk <| .sk <| .sk <| .pickF rfl rfl <| .assign rfl <| .nil) ?_
    clear Hz Az; intro Az Hz
    refine wpList_nil ?_
    refine hK7 _ _ ?_; clear hK7; try clear K7
    refine wp_ret ?_
    try dsimp only [Exit.then, Exit.inBlock]
    refine (ret1 (fn := Tryd.f25) Hz rfl rfl ?_)
    exact ⟨by first | (rw [numsB_no hqs hin]; done) | (rw [numsB_all hall, hv]; simp), m57.below⟩
theorem entsR_x (pe : Option Addr) (ce : Nat) (w0 : World) :
   Calls Tryd.prog 43 #[.slice pe 0 ce] w0 fun e w' => e = .returned (.bool true) ∧ Below w0.heap.size w0 w' := by
 refine enter (fn := Tryd.f43) Tryd.func43 rfl Tryd.ntmps43 rfl (fun Az Hz => ?_)
 simp only [List.zipIdx_cons, List.zipIdx_nil, List.map_cons, List.map_nil, Nat.reduceAdd, Nat.zero_add] at Hz
 have m0 := MemOk.start (fun _ => False) w0
 refine regS Hz (.assign rfl <| .nil) ?_
 clear Hz Az; intro Az Hz
 refine wp_seq_k (fun K0 hK0 => ?_)
 refine regS Hz (.move rfl <| .len rfl Tryd.underlying24 <| .move rfl <| .nil) ?_
 clear Hz Az; intro Az Hz
 refine wp_block ?_
 refine wp_loop_ghost (fun g a w => g = 0 ∧ Has 30 [(0, .slice pe 0 ce), (6, .int .i64 0), (7, .int .i64 0)] a ∧ MemOk (cx (fun _ => False) w0) w0 [] w) (0) ?_ ?_
 · exact ⟨rfl, Hz.only [0, 6, 7], m0.only []⟩
 ·
  clear Hz m0
  rintro g Az w5 ⟨hg, Hz, m5⟩
  refine regS Hz (.lss rfl rfl <| .nil) ?_
  clear Hz Az; intro Az Hz
  refine wp_seq_k (fun K1 hK1 => ?_)
  refine bool_cases Hz (t := 8) rfl ?_ ?_
  · intro hb _; exact absurd hb (by simp)
  clear Hz; intro _ Hz
  refine wp_cond_false (Hz.ev (x := .tmp 8) rfl) ?_
  refine wp_exit ?_
  refine hK0 _ _ ?_; clear hK0; try clear K0
  refine regS Hz (.move rfl <| .len rfl Tryd.underlying24 <| .leq rfl rfl <| .assign rfl <| .nil) ?_
  clear Hz Az; intro Az Hz
  refine wp_ret ?_
  try dsimp only [Exit.then, Exit.inBlock]
  refine (ret1 (fn := Tryd.f43) Hz rfl rfl ?_)
  exact ⟨rfl, m5.below⟩
end Go.Proofs.YtmoghepeggohhaaDoor.K
