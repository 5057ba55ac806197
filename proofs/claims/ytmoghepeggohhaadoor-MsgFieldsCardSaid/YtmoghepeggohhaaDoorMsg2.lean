/- msg: listsRight, Right of messages without entries. -/
import Derived.Test.YtmoghepeggohhaaDoorMsgE
namespace Go.Proofs.YtmoghepeggohhaaDoor.K
open Go.ChangeShapes Go.WideShapes Go.ChangeAt Go.RowKit
set_option linter.unusedVariables false
set_option linter.unusedSimpArgs false

theorem fl28mlr : flatS Tryd.prog 28 [.int .i64 0, .int .i64 0, .slice none 0 0, .slice none 0 0] = true := by kernel_rfl
theorem sz28mlr : (Tryd.prog.info? 28).map (·.size) = some 4 := by kernel_rfl
theorem zc28mlr : ((Tryd.prog.info? 28).bind (·.zero)).map (·.cells.toList) = some [.int .i64 0, .int .i64 0, .slice none 0 0, .slice none 0 0] := by kernel_rfl
theorem sz30mri : (Tryd.prog.info? 30).map (·.size) = some 19 := by kernel_rfl
theorem sz55mri : (Tryd.prog.info? 55).map (·.size) = some 9 := by kernel_rfl
theorem sz57mri : (Tryd.prog.info? 57).map (·.size) = some 13 := by kernel_rfl
theorem zc55mri : ((Tryd.prog.info? 55).bind (·.zero)).map (·.cells.toList) = some [.int .i64 0, .int .i64 0, .int .i64 0, .int .i64 0, .bool false, .int .i64 0, .int .i64 0, .int .i64 0, .int .i64 0] := by kernel_rfl
theorem zc57mri : ((Tryd.prog.info? 57).bind (·.zero)).map (·.cells.toList) = some [.int .i64 0, .int .i64 0, .int .i64 0, .int .i64 0, .int .i64 0, .int .i64 0, .int .i64 0, .int .i64 0, .bool false, .int .i64 0, .int .i64 0, .int .i64 0, .int .i64 0] := by kernel_rfl

set_option maxRecDepth 100000
set_option maxHeartbeats 4000000
theorem listsR_x (m : MV) (pe p2 p3 p4 : Option Addr) (ce c2 c3 c4 : Nat) (w0 : World) (h2 : Rd (fun _ => True) w0 (.slice p2 m.cf.length c2) (.ns .i64 m.cf)) (h3 : Rd (fun _ => True) w0 (.slice p3 m.bd.length c3) (.ns .u8 m.bd)) (h4 : Rd (fun _ => True) w0 (.slice p4 m.da.length c4) (.ns .u8 m.da)) (hcl : m.cf.length ≤ 900) (hbb : BytesL m.bd) :
   Calls Tryd.prog 26 #[.agg #[.int .i64 m.k, .int .i64 m.g, .int .i64 m.f, .int .i64 m.t, .int .i64 m.n.te, .int .i64 m.n.ix, .int .i64 m.n.lt, .int .i64 m.n.co, .bool m.n.ok, .slice pe 0 ce, .int .i64 m.bi, .int .i64 m.bt, .slice p2 m.cf.length c2, .slice p3 m.bd.length c3, .slice p4 m.da.length c4, .int .i64 m.n.vo, .int .i64 m.n.ch, .int .i64 m.n.ma, .int .i64 m.n.fl]] w0 fun e w' => e = .returned (.bool (listsB m)) ∧ Below w0.heap.size w0 w' := by
 refine enter (fn := Tryd.f26) Tryd.func26 rfl Tryd.ntmps26 rfl (fun Az Hz => ?_)
 simp only [List.zipIdx_cons, List.zipIdx_nil, List.map_cons, List.map_nil, Nat.reduceAdd, Nat.zero_add] at Hz
 have m0 := MemOk.start (fun _ => True) w0
 refine wp_seq_k (fun K0 hK0 => ?_)
 refine wp_region_lit ?_
 refine wpList_plain rfl (fun K hK => ?_)
 refine e_box Hz m0 20 (cs := [_, _, _, _, _, _, _, _, _, _, _, _, _, _, _, _, _, _, _]) rfl rfl rfl ?_
 clear Hz Az m0; intro g1 Az w2 Hz m2 hB2 hg2
 clear hB2 hg2
 refine hK _ _ ?_; clear hK K
 refine goCh Hz (.assign rfl .nil) ?_
 clear Hz Az; intro Az Hz
 refine wpList_nil ?_
 refine hK0 _ _ ?_; clear hK0; try clear K0
 refine regS Hz (.fieldAddr (off := 9) rfl Tryd.underlying30 rfl (s := 0) (by kernel_rfl) rfl <| .loadB1 m2 (i := 20) rfl rfl rfl Tryd.underlying24 rfl <| .len rfl Tryd.underlying24 <| .eql rfl rfl <| .assign rfl <| .nil) ?_
 clear Hz Az; intro Az Hz
 refine wp_seq_k (fun K1 hK1 => ?_)
 refine wp_region_lit ?_
 refine goCh Hz (.fieldAddr (off := 10) rfl Tryd.underlying30 rfl (s := 3) (by kernel_rfl) rfl <| .loadBR m2 (i := 20) rfl rfl Tryd.underlying28 rfl sz28mlr (by simp) (by dsimp only [List.drop, List.take] <;> rfl) <| .build rfl zc28mlr fl28mlr rfl (by dsimp only [setL, List.set] <;> rfl) <| .nil) ?_
 clear Hz Az; intro Az Hz
 refine wpList_plain rfl (fun K hK => ?_)
 refine e_call Hz Tryd.func23 rfl rfl rfl rfl (baseSame_any m.bi m.bt 0 0 _ _ _ _ m.cf m.bd [] [] _ (((h2.now' m2 rfl).any).ns_out.nums) (IsNums.nil _ _ _ _) (((h3.now' m2 rfl).any).ns_out.nums) (IsNums.nil _ _ _ _) hbb (by simp) (by omega)) ?_
 rintro e w15 ⟨rfl, hb15⟩
 have m16 := m2.later hb15
 clear m2
 clear hb15
 refine ⟨_, rfl, ?_⟩; clear Hz Az; intro Az Hz
 refine hK _ _ ?_; clear hK K
 refine goCh Hz (.assign rfl .nil) ?_
 clear Hz Az; intro Az Hz
 refine wpList_nil ?_
 refine hK1 _ _ ?_; clear hK1; try clear K1
 replace Hz : Has 43 [(1, _), (2, _), (3, _), (4, _)] Az := Hz.only [1, 2, 3, 4]
 refine regS Hz (.fieldAddr (off := 14) rfl Tryd.underlying30 rfl (s := 0) (by kernel_rfl) rfl <| .loadB1 m16 (i := 20) rfl rfl rfl Tryd.underlying26 rfl <| .len rfl Tryd.underlying26 <| .eql rfl rfl <| .assign rfl <| .nil) ?_
 clear Hz Az; intro Az Hz
 refine wp_seq_k (fun K2 hK2 => ?_)
 refine regS Hz (.fieldAddr (off := 0) rfl Tryd.underlying30 rfl (s := 0) (by kernel_rfl) rfl <| .loadB1 m16 (i := 20) rfl rfl rfl Tryd.underlying3 rfl <| .nil) ?_
 clear Hz Az; intro Az Hz
 refine wp_block ?_
 refine regS Hz (.eql rfl rfl <| .assign rfl <| .nil) ?_
 clear Hz Az; intro Az Hz
 refine bool_cases Hz (t := 20) rfl ?_ ?_
 ·
  clear Hz; intro hb29 Hz
  try simp only [Q1x, Q2x, Q3x, Q4x, Q5x, Q6x, Q7x, Q8x, Q9x, Q0x, Qax, Qbx] at hb29
  have hk7 : ¬ m.k = 7 := by have := hb29; first | omega | (simp at this; omega)
  have hk8 : ¬ m.k = 8 := by have := hb29; first | omega | (simp at this; omega)
  refine wp_cond_true (Hz.ev (x := .tmp 20) rfl) ?_
  replace Hz : Has 43 [(1, _), (2, _), (3, _), (4, _), (5, _), (19, _)] Az := Hz.only [1, 2, 3, 4, 5, 19]
  refine wp_region_lit ?_
  refine goCh Hz (.fieldAddr (off := 9) rfl Tryd.underlying30 rfl (s := 0) (by kernel_rfl) rfl <| .loadB1 m16 (i := 20) rfl rfl rfl Tryd.underlying24 rfl <| .nil) ?_
  clear Hz Az; intro Az Hz
  refine wpList_plain rfl (fun K hK => ?_)
  refine e_call Hz Tryd.func43 rfl rfl rfl rfl (entsR_x _ _ _) ?_
  rintro e w33 ⟨rfl, hb33⟩
  have m34 := m16.later hb33
  clear m16
  clear hb33
  refine ⟨_, rfl, ?_⟩; clear Hz Az; intro Az Hz
  refine hK _ _ ?_; clear hK K
  refine goCh Hz (.assign rfl .nil) ?_
  clear Hz Az; intro Az Hz
  refine wpList_nil ?_
  refine hK2 _ _ ?_; clear hK2; try clear K2
  refine wp_seq_k (fun K3 hK3 => ?_)
  refine wp_region_lit ?_
  refine goCh Hz (.move rfl <| .move rfl <| .moveZ rfl <| .pickT rfl rfl <| .move rfl <| .nil) ?_
  clear Hz Az; intro Az Hz
  refine bool_cases Hz (t := 40) rfl ?_ ?_
  ·
   clear Hz; intro hb47 Hz
   try simp only [Q1x, Q2x, Q3x, Q4x, Q5x, Q6x, Q7x, Q8x, Q9x, Q0x, Qax, Qbx] at hb47
   have hB := hb47
   refine goCh Hz (.moveZ rfl <| .pickT rfl rfl <| .assign rfl <| .nil) ?_
   clear Hz Az; intro Az Hz
   refine wpList_nil ?_
   refine hK3 _ _ ?_; clear hK3; try clear K3
   refine wp_ret ?_
   try dsimp only [Exit.then, Exit.inBlock]
   refine (ret1 (fn := Tryd.f26) Hz rfl rfl ?_)
   refine ⟨?_, m34.below⟩
   unfold listsB
   first | rw [if_pos hk7, if_neg hk8, hB] | rw [if_pos hk7, if_neg hk8, decide_eq_true hB] | rw [if_pos hk7, if_neg hk8, decide_eq_false hB] | rw [if_neg hk7, if_pos hk8, hB] | rw [if_neg hk7, if_pos hk8, decide_eq_true hB] | rw [if_neg hk7, if_pos hk8, decide_eq_false hB] | rw [if_neg hk7, if_neg hk8, hB] | rw [if_neg hk7, if_neg hk8, decide_eq_true hB] | rw [if_neg hk7, if_neg hk8, decide_eq_false hB]
   all_goals first | (simp; done) | (simp; omega)
  ·
   clear Hz; intro hb47 Hz
   try simp only [Q1x, Q2x, Q3x, Q4x, Q5x, Q6x, Q7x, Q8x, Q9x, Q0x, Qax, Qbx] at hb47
   have hB := hb47
   refine goCh Hz (.sk <| .pickF rfl rfl <| .assign rfl <| .nil) ?_
   clear Hz Az; intro Az Hz
   refine wpList_nil ?_
   refine hK3 _ _ ?_; clear hK3; try clear K3
   refine wp_ret ?_
   try dsimp only [Exit.then, Exit.inBlock]
   refine (ret1 (fn := Tryd.f26) Hz rfl rfl ?_)
   refine ⟨?_, m34.below⟩
   unfold listsB
   first | rw [if_pos hk7, if_neg hk8, hB] | rw [if_pos hk7, if_neg hk8, decide_eq_true hB] | rw [if_pos hk7, if_neg hk8, decide_eq_false hB] | rw [if_neg hk7, if_pos hk8, hB] | rw [if_neg hk7, if_pos hk8, decide_eq_true hB] | rw [if_neg hk7, if_pos hk8, decide_eq_false hB] | rw [if_neg hk7, if_neg hk8, hB] | rw [if_neg hk7, if_neg hk8, decide_eq_true hB] | rw [if_neg hk7, if_neg hk8, decide_eq_false hB]
   all_goals first | (simp; done) | (simp; omega)
 ·
  clear Hz; intro hb29 Hz
  try simp only [Q1x, Q2x, Q3x, Q4x, Q5x, Q6x, Q7x, Q8x, Q9x, Q0x, Qax, Qbx] at hb29
  have hn5 : ¬ m.k = 5 := by have := hb29; first | omega | (simp at this; omega)
  refine wp_cond_false (Hz.ev (x := .tmp 20) rfl) ?_
  replace Hz : Has 43 [(1, _), (2, _), (3, _), (4, _), (5, _), (19, _)] Az := Hz.only [1, 2, 3, 4, 5, 19]
  refine regS Hz (.eql rfl rfl <| .assign rfl <| .nil) ?_
  clear Hz Az; intro Az Hz
  refine bool_cases Hz (t := 25) rfl ?_ ?_
  ·
   clear Hz; intro hb57 Hz
   try simp only [Q1x, Q2x, Q3x, Q4x, Q5x, Q6x, Q7x, Q8x, Q9x, Q0x, Qax, Qbx] at hb57
   have hk7 : m.k = 7 := by have := hb57; first | omega | (simp at this; omega)
   have hk8 : ¬ m.k = 8 := by have := hb57; first | omega | (simp at this; omega)
   refine wp_cond_true (Hz.ev (x := .tmp 25) rfl) ?_
   refine wp_region_lit ?_
   refine goCh Hz (.fieldAddr (off := 10) rfl Tryd.underlying30 rfl (s := 3) (by kernel_rfl) rfl <| .loadBR m16 (i := 20) rfl rfl Tryd.underlying28 rfl sz28mlr (by simp) (by dsimp only [List.drop, List.take] <;> rfl) <| .nil) ?_
   clear Hz Az; intro Az Hz
   refine wpList_plain rfl (fun K hK => ?_)
   refine e_call Hz Tryd.func30 rfl rfl rfl rfl (baseRight_any m.bi m.bt _ _ m.cf m.bd _ (((h2.now' m16 rfl).any).ns_out.nums) (((h3.now' m16 rfl).any).ns_out.nums) hcl) ?_
   rintro e w60 ⟨rfl, hb60⟩
   have m61 := m16.later hb60
   clear m16
   clear hb60
   refine ⟨_, rfl, ?_⟩; clear Hz Az; intro Az Hz
   refine hK _ _ ?_; clear hK K
   refine goCh Hz (.assign rfl .nil) ?_
   clear Hz Az; intro Az Hz
   refine wpList_nil ?_
   refine hK2 _ _ ?_; clear hK2; try clear K2
   replace Hz : Has 43 [(2, _), (3, _), (4, _), (5, _)] Az := Hz.only [2, 3, 4, 5]
   refine wp_seq_k (fun K4 hK4 => ?_)
   refine wp_region_lit ?_
   refine goCh Hz (.move rfl <| .move rfl <| .nil) ?_
   clear Hz Az; intro Az Hz
   refine bool_cases Hz (t := 37) rfl ?_ ?_
   rotate_left
   · intro hb _; exact absurd hb (by simp)
   clear Hz; intro _ Hz
   refine goCh Hz (.moveZ rfl <| .pickT rfl rfl <| .move rfl <| .nil) ?_
   clear Hz Az; intro Az Hz
   refine bool_cases Hz (t := 40) rfl ?_ ?_
   ·
    clear Hz; intro hb73 Hz
    try simp only [Q1x, Q2x, Q3x, Q4x, Q5x, Q6x, Q7x, Q8x, Q9x, Q0x, Qax, Qbx] at hb73
    have hB := hb73
    refine goCh Hz (.moveZ rfl <| .pickT rfl rfl <| .assign rfl <| .nil) ?_
    clear Hz Az; intro Az Hz
    refine wpList_nil ?_
    refine hK4 _ _ ?_; clear hK4; try clear K4
    refine wp_ret ?_
    try dsimp only [Exit.then, Exit.inBlock]
    refine (ret1 (fn := Tryd.f26) Hz rfl rfl ?_)
    refine ⟨?_, m61.below⟩
    unfold listsB
    first | rw [if_pos hk7, if_neg hk8, hB] | rw [if_pos hk7, if_neg hk8, decide_eq_true hB] | rw [if_pos hk7, if_neg hk8, decide_eq_false hB] | rw [if_neg hk7, if_pos hk8, hB] | rw [if_neg hk7, if_pos hk8, decide_eq_true hB] | rw [if_neg hk7, if_pos hk8, decide_eq_false hB] | rw [if_neg hk7, if_neg hk8, hB] | rw [if_neg hk7, if_neg hk8, decide_eq_true hB] | rw [if_neg hk7, if_neg hk8, decide_eq_false hB]
    all_goals first | (simp; done) | (simp; omega)
   ·
    clear Hz; intro hb73 Hz
    try simp only [Q1x, Q2x, Q3x, Q4x, Q5x, Q6x, Q7x, Q8x, Q9x, Q0x, Qax, Qbx] at hb73
    have hB := hb73
    refine goCh Hz (.sk <| .pickF rfl rfl <| .assign rfl <| .nil) ?_
    clear Hz Az; intro Az Hz
    refine wpList_nil ?_
    refine hK4 _ _ ?_; clear hK4; try clear K4
    refine wp_ret ?_
    try dsimp only [Exit.then, Exit.inBlock]
    refine (ret1 (fn := Tryd.f26) Hz rfl rfl ?_)
    refine ⟨?_, m61.below⟩
    unfold listsB
    first | rw [if_pos hk7, if_neg hk8, hB] | rw [if_pos hk7, if_neg hk8, decide_eq_true hB] | rw [if_pos hk7, if_neg hk8, decide_eq_false hB] | rw [if_neg hk7, if_pos hk8, hB] | rw [if_neg hk7, if_pos hk8, decide_eq_true hB] | rw [if_neg hk7, if_pos hk8, decide_eq_false hB] | rw [if_neg hk7, if_neg hk8, hB] | rw [if_neg hk7, if_neg hk8, decide_eq_true hB] | rw [if_neg hk7, if_neg hk8, decide_eq_false hB]
    all_goals first | (simp; done) | (simp; omega)
  ·
   clear Hz; intro hb57 Hz
   try simp only [Q1x, Q2x, Q3x, Q4x, Q5x, Q6x, Q7x, Q8x, Q9x, Q0x, Qax, Qbx] at hb57
   have hn7 : ¬ m.k = 7 := by have := hb57; first | omega | (simp at this; omega)
   refine wp_cond_false (Hz.ev (x := .tmp 25) rfl) ?_
   refine regS Hz (.eql rfl rfl <| .assign rfl <| .nil) ?_
   clear Hz Az; intro Az Hz
   refine bool_cases Hz (t := 30) rfl ?_ ?_
   ·
    clear Hz; intro hb82 Hz
    try simp only [Q1x, Q2x, Q3x, Q4x, Q5x, Q6x, Q7x, Q8x, Q9x, Q0x, Qax, Qbx] at hb82
    have hk7 : ¬ m.k = 7 := by have := hb82; first | omega | (simp at this; omega)
    have hk8 : m.k = 8 := by have := hb82; first | omega | (simp at this; omega)
    refine wp_cond_true (Hz.ev (x := .tmp 30) rfl) ?_
    refine wp_region_lit ?_
    refine goCh Hz (.fieldAddr (off := 14) rfl Tryd.underlying30 rfl (s := 0) (by kernel_rfl) rfl <| .loadB1 m16 (i := 20) rfl rfl rfl Tryd.underlying26 rfl <| .len rfl Tryd.underlying26 <| .leq rfl rfl <| .assign rfl <| .nil) ?_
    clear Hz Az; intro Az Hz
    refine wpList_nil ?_
    refine hK2 _ _ ?_; clear hK2; try clear K2
    replace Hz : Has 43 [(2, _), (3, _), (4, _), (5, _)] Az := Hz.only [2, 3, 4, 5]
    refine wp_seq_k (fun K5 hK5 => ?_)
    refine wp_region_lit ?_
    refine goCh Hz (.move rfl <| .move rfl <| .nil) ?_
    clear Hz Az; intro Az Hz
    refine bool_cases Hz (t := 37) rfl ?_ ?_
    rotate_left
    · intro hb _; exact absurd hb (by simp)
    clear Hz; intro _ Hz
    refine goCh Hz (.moveZ rfl <| .pickT rfl rfl <| .move rfl <| .nil) ?_
    clear Hz Az; intro Az Hz
    refine bool_cases Hz (t := 40) rfl ?_ ?_
    ·
     clear Hz; intro hb97 Hz
     try simp only [Q1x, Q2x, Q3x, Q4x, Q5x, Q6x, Q7x, Q8x, Q9x, Q0x, Qax, Qbx] at hb97
     have hB := hb97
     refine goCh Hz (.moveZ rfl <| .pickT rfl rfl <| .assign rfl <| .nil) ?_
     clear Hz Az; intro Az Hz
     refine wpList_nil ?_
     refine hK5 _ _ ?_; clear hK5; try clear K5
     refine wp_ret ?_
     try dsimp only [Exit.then, Exit.inBlock]
     refine (ret1 (fn := Tryd.f26) Hz rfl rfl ?_)
     refine ⟨?_, m16.below⟩
     unfold listsB
     first | rw [if_pos hk7, if_neg hk8, hB] | rw [if_pos hk7, if_neg hk8, decide_eq_true hB] | rw [if_pos hk7, if_neg hk8, decide_eq_false hB] | rw [if_neg hk7, if_pos hk8, hB] | rw [if_neg hk7, if_pos hk8, decide_eq_true hB] | rw [if_neg hk7, if_pos hk8, decide_eq_false hB] | rw [if_neg hk7, if_neg hk8, hB] | rw [if_neg hk7, if_neg hk8, decide_eq_true hB] | rw [if_neg hk7, if_neg hk8, decide_eq_false hB]
     all_goals first | (simp; done) | (simp; omega)
    ·
     clear Hz; intro hb97 Hz
     try simp only [Q1x, Q2x, Q3x, Q4x, Q5x, Q6x, Q7x, Q8x, Q9x, Q0x, Qax, Qbx] at hb97
     have hB := hb97
     refine goCh Hz (.sk <| .pickF rfl rfl <| .assign rfl <| .nil) ?_
     clear Hz Az; intro Az Hz
     refine wpList_nil ?_
     refine hK5 _ _ ?_; clear hK5; try clear K5
     refine wp_ret ?_
     try dsimp only [Exit.then, Exit.inBlock]
     refine (ret1 (fn := Tryd.f26) Hz rfl rfl ?_)
     refine ⟨?_, m16.below⟩
     unfold listsB
     first | rw [if_pos hk7, if_neg hk8, hB] | rw [if_pos hk7, if_neg hk8, decide_eq_true hB] | rw [if_pos hk7, if_neg hk8, decide_eq_false hB] | rw [if_neg hk7, if_pos hk8, hB] | rw [if_neg hk7, if_pos hk8, decide_eq_true hB] | rw [if_neg hk7, if_pos hk8, decide_eq_false hB] | rw [if_neg hk7, if_neg hk8, hB] | rw [if_neg hk7, if_neg hk8, decide_eq_true hB] | rw [if_neg hk7, if_neg hk8, decide_eq_false hB]
     all_goals first | (simp; done) | (simp; omega)
   ·
    clear Hz; intro hb82 Hz
    try simp only [Q1x, Q2x, Q3x, Q4x, Q5x, Q6x, Q7x, Q8x, Q9x, Q0x, Qax, Qbx] at hb82
    have hn8 : ¬ m.k = 8 := by have := hb82; first | omega | (simp at this; omega)
    have hk7 : ¬ m.k = 7 := hn7
    have hk8 : ¬ m.k = 8 := hn8
    refine wp_cond_false (Hz.ev (x := .tmp 30) rfl) ?_
    refine wp_skip ?_
    refine hK2 _ _ ?_; clear hK2; try clear K2
    replace Hz : Has 43 [(2, _), (3, _), (4, _), (5, _)] Az := Hz.only [2, 3, 4, 5]
    refine wp_seq_k (fun K6 hK6 => ?_)
    refine wp_region_lit ?_
    refine goCh Hz (.move rfl <| .move rfl <| .nil) ?_
    clear Hz Az; intro Az Hz
    refine bool_cases Hz (t := 37) rfl ?_ ?_
    rotate_left
    · intro hb _; exact absurd hb (by simp)
    clear Hz; intro _ Hz
    refine goCh Hz (.moveZ rfl <| .pickT rfl rfl <| .move rfl <| .nil) ?_
    clear Hz Az; intro Az Hz
    refine bool_cases Hz (t := 40) rfl ?_ ?_
    ·
     clear Hz; intro hb113 Hz
     try simp only [Q1x, Q2x, Q3x, Q4x, Q5x, Q6x, Q7x, Q8x, Q9x, Q0x, Qax, Qbx] at hb113
     have hB := hb113
     refine goCh Hz (.moveZ rfl <| .pickT rfl rfl <| .assign rfl <| .nil) ?_
     clear Hz Az; intro Az Hz
     refine wpList_nil ?_
     refine hK6 _ _ ?_; clear hK6; try clear K6
     refine wp_ret ?_
     try dsimp only [Exit.then, Exit.inBlock]
     refine (ret1 (fn := Tryd.f26) Hz rfl rfl ?_)
     refine ⟨?_, m16.below⟩
     unfold listsB
     first | rw [if_pos hk7, if_neg hk8, hB] | rw [if_pos hk7, if_neg hk8, decide_eq_true hB] | rw [if_pos hk7, if_neg hk8, decide_eq_false hB] | rw [if_neg hk7, if_pos hk8, hB] | rw [if_neg hk7, if_pos hk8, decide_eq_true hB] | rw [if_neg hk7, if_pos hk8, decide_eq_false hB] | rw [if_neg hk7, if_neg hk8, hB] | rw [if_neg hk7, if_neg hk8, decide_eq_true hB] | rw [if_neg hk7, if_neg hk8, decide_eq_false hB]
     all_goals first | (simp; done) | (simp; omega)
    ·
     clear Hz; intro hb113 Hz
     try simp only [Q1x, Q2x, Q3x, Q4x, Q5x, Q6x, Q7x, Q8x, Q9x, Q0x, Qax, Qbx] at hb113
     have hB := hb113
     refine goCh Hz (.sk <| .pickF rfl rfl <| .assign rfl <| .nil) ?_
     clear Hz Az; intro Az Hz
     refine wpList_nil ?_
     refine hK6 _ _ ?_; clear hK6; try clear K6
     refine wp_ret ?_
     try dsimp only [Exit.then, Exit.inBlock]
     refine (ret1 (fn := Tryd.f26) Hz rfl rfl ?_)
     refine ⟨?_, m16.below⟩
     unfold listsB
     first | rw [if_pos hk7, if_neg hk8, hB] | rw [if_pos hk7, if_neg hk8, decide_eq_true hB] | rw [if_pos hk7, if_neg hk8, decide_eq_false hB] | rw [if_neg hk7, if_pos hk8, hB] | rw [if_neg hk7, if_pos hk8, decide_eq_true hB] | rw [if_neg hk7, if_pos hk8, decide_eq_false hB] | rw [if_neg hk7, if_neg hk8, hB] | rw [if_neg hk7, if_neg hk8, decide_eq_true hB] | rw [if_neg hk7, if_neg hk8, decide_eq_false hB]
     all_goals first | (simp; done) | (simp; omega)
theorem right_x (m : MV) (pe p2 p3 p4 : Option Addr) (ce c2 c3 c4 : Nat) (w0 : World) (h2 : Rd (fun _ => True) w0 (.slice p2 m.cf.length c2) (.ns .i64 m.cf)) (h3 : Rd (fun _ => True) w0 (.slice p3 m.bd.length c3) (.ns .u8 m.bd)) (h4 : Rd (fun _ => True) w0 (.slice p4 m.da.length c4) (.ns .u8 m.da)) (hcl : m.cf.length ≤ 900) (hbb : BytesL m.bd) :
   Calls Tryd.prog 8 #[.agg #[.int .i64 m.k, .int .i64 m.g, .int .i64 m.f, .int .i64 m.t, .int .i64 m.n.te, .int .i64 m.n.ix, .int .i64 m.n.lt, .int .i64 m.n.co, .bool m.n.ok, .slice pe 0 ce, .int .i64 m.bi, .int .i64 m.bt, .slice p2 m.cf.length c2, .slice p3 m.bd.length c3, .slice p4 m.da.length c4, .int .i64 m.n.vo, .int .i64 m.n.ch, .int .i64 m.n.ma, .int .i64 m.n.fl]] w0 fun e w' => e = .returned (.bool (msgR m)) ∧ Below w0.heap.size w0 w' := by
 refine enter (fn := Tryd.f8) Tryd.func8 rfl Tryd.ntmps8 rfl (fun Az Hz => ?_)
 simp only [List.zipIdx_cons, List.zipIdx_nil, List.map_cons, List.map_nil, Nat.reduceAdd, Nat.zero_add] at Hz
 have m0 := MemOk.start (fun _ => True) w0
 refine wp_seq_k (fun K0 hK0 => ?_)
 refine wp_region_lit ?_
 refine wpList_plain rfl (fun K hK => ?_)
 refine e_box Hz m0 20 (cs := [_, _, _, _, _, _, _, _, _, _, _, _, _, _, _, _, _, _, _]) rfl rfl rfl ?_
 clear Hz Az m0; intro g1 Az w2 Hz m2 hB2 hg2
 clear hB2 hg2
 refine hK _ _ ?_; clear hK K
 refine goCh Hz (.assign rfl .nil) ?_
 clear Hz Az; intro Az Hz
 refine wpList_nil ?_
 refine hK0 _ _ ?_; clear hK0; try clear K0
 refine wp_seq_k (fun K1 hK1 => ?_)
 refine wp_region_lit ?_
 refine goCh Hz (.loadBR m2 (i := 20) rfl rfl Tryd.underlying30 rfl sz30mri (by simp) (by dsimp only [List.drop, List.take] <;> rfl) .nil) ?_
 clear Hz Az; intro Az Hz
 refine wpList_plain rfl (fun K hK => ?_)
 refine e_call Hz Tryd.func20 rfl rfl rfl rfl (headOf_x m _ _ _ _ _ _ _ _ _) ?_
 rintro e w6 ⟨rfl, hb6⟩
 have m7 := m2.later hb6
 clear m2
 clear hb6
 refine ⟨_, rfl, ?_⟩; clear Hz Az; intro Az Hz
 refine hK _ _ ?_; clear hK K
 refine wpList_plain rfl (fun K hK => ?_)
 refine e_alloc Hz m7 21 zc57mri rfl ?_
 clear Hz Az m7; intro g9 Az w10 Hz m10 hB10 hg10
 clear hB10 hg10
 refine hK _ _ ?_; clear hK K
 refine wpList_plain rfl (fun K hK => ?_)
 refine e_storeW Hz m10 21 rfl rfl rfl rfl rfl sz57mri ?_
 clear m10; intro w11 m11 hB11
 clear hB11
 refine hK _ _ ?_; clear hK K
 refine wpList_nil ?_
 refine hK1 _ _ ?_; clear hK1; try clear K1
 refine wp_seq_k (fun K2 hK2 => ?_)
 refine wp_region_lit ?_
 refine goCh Hz (.fieldAddr (off := 0) rfl Tryd.underlying30 rfl (s := 0) (by kernel_rfl) rfl <| .loadB1 m11 (i := 20) rfl rfl rfl Tryd.underlying3 rfl <| .fieldAddr (off := 4) rfl Tryd.underlying57 rfl (s := 8) (by kernel_rfl) rfl <| .loadBR m11 (i := 21) rfl rfl Tryd.underlying55 rfl sz55mri (by simp) (by dsimp only [List.drop, List.take] <;> rfl) <| .nil) ?_
 clear Hz Az; intro Az Hz
 refine wpList_plain rfl (fun K hK => ?_)
 refine e_call Hz Tryd.func24 rfl rfl rfl rfl (named_x m.k m.n _) ?_
 rintro e w20 ⟨N, nb, hN, hNb, rfl, hb20⟩
 have m21 := m11.later hb20
 clear m11
 clear hb20
 refine ⟨_, rfl, ?_⟩; clear Hz Az; intro Az Hz
 refine hK _ _ ?_; clear hK K
 refine goCh Hz (.move rfl <| .extract rfl rfl <| .extract rfl rfl <| .nil) ?_
 clear Hz Az; intro Az Hz
 refine wpList_plain rfl (fun K hK => ?_)
 refine e_alloc Hz m21 22 zc55mri rfl ?_
 clear Hz Az m21; intro g26 Az w27 Hz m27 hB27 hg27
 clear hB27 hg27
 refine hK _ _ ?_; clear hK K
 refine wpList_plain rfl (fun K hK => ?_)
 refine e_storeW Hz m27 22 rfl rfl rfl rfl rfl sz55mri ?_
 clear m27; intro w28 m28 hB28
 clear hB28
 refine hK _ _ ?_; clear hK K
 refine goCh Hz (.assign rfl .nil) ?_
 clear Hz Az; intro Az Hz
 refine wpList_nil ?_
 refine hK2 _ _ ?_; clear hK2; try clear K2
 replace Hz : Has 46 [(1, _), (2, _), (3, _), (4, _), (5, _)] Az := Hz.only [1, 2, 3, 4, 5]
 refine wp_seq_k (fun K3 hK3 => ?_)
 refine wp_region_lit ?_
 refine goCh Hz (.move rfl <| .move rfl <| .nil) ?_
 clear Hz Az; intro Az Hz
 refine bool_cases Hz (t := 17) rfl ?_ ?_
 ·
  clear Hz; intro hb35 Hz
  try simp only [Q1x, Q2x, Q3x, Q4x, Q5x, Q6x, Q7x, Q8x, Q9x, Q0x, Qax, Qbx] at hb35
  obtain rfl : nb = true := hb35
  refine goCh Hz (.loadBRZ m28 (i := 22) rfl rfl Tryd.underlying55 rfl sz55mri (by simp) (by dsimp only [List.drop, List.take] <;> rfl) <| .fieldAddrZ (off := 4) rfl Tryd.underlying57 rfl (s := 8) (by kernel_rfl) rfl <| .loadBRZ m28 (i := 21) rfl rfl Tryd.underlying55 rfl sz55mri (by simp) (by dsimp only [List.drop, List.take] <;> rfl) <| .g rfl rfl rfl rfl (fun _ h_ => y_eqlH h_ rfl rfl) <| .pickT rfl rfl <| .move rfl <| .nil) ?_
  clear Hz Az; intro Az Hz
  refine bool_cases Hz (t := 23) rfl ?_ ?_
  ·
   clear Hz; intro hb42 Hz
   try simp only [Q1x, Q2x, Q3x, Q4x, Q5x, Q6x, Q7x, Q8x, Q9x, Q0x, Qax, Qbx] at hb42
   have e2 := hb42
   obtain rfl : N = m.n := by simpa using e2
   refine goCh Hz (.loadBRZ m28 (i := 22) rfl rfl Tryd.underlying55 rfl sz55mri (by simp) (by dsimp only [List.drop, List.take] <;> rfl) .nil) ?_
   clear Hz Az; intro Az Hz
   refine st_ge Hz rfl rfl rfl rfl (fun K hK => ?_)
   refine e_call Hz Tryd.func25 rfl rfl rfl rfl (numsR_x _ _) ?_
   rintro e w44 ⟨rfl, hb44⟩
   have m45 := m28.later hb44
   clear m28
   clear hb44
   refine ⟨_, rfl, ?_⟩; clear Hz Az; intro Az Hz
   refine hK _ _ ?_; clear hK K
   refine goCh Hz (.pickT rfl rfl <| .move rfl <| .nil) ?_
   clear Hz Az; intro Az Hz
   refine bool_cases Hz (t := 27) rfl ?_ ?_
   ·
    clear Hz; intro hb49 Hz
    try simp only [Q1x, Q2x, Q3x, Q4x, Q5x, Q6x, Q7x, Q8x, Q9x, Q0x, Qax, Qbx] at hb49
    have e3 := hb49
    refine goCh Hz (.loadBRZ m45 (i := 20) rfl rfl Tryd.underlying30 rfl sz30mri (by simp) (by dsimp only [List.drop, List.take] <;> rfl) .nil) ?_
    clear Hz Az; intro Az Hz
    refine st_ge Hz rfl rfl rfl rfl (fun K hK => ?_)
    refine e_call Hz Tryd.func26 rfl rfl rfl rfl (listsR_x m _ _ _ _ _ _ _ _ _ ((h2.now' m45 rfl).any) ((h3.now' m45 rfl).any) ((h4.now' m45 rfl).any) hcl hbb) ?_
    rintro e w51 ⟨rfl, hb51⟩
    have m52 := m45.later hb51
    clear m45
    clear hb51
    refine ⟨_, rfl, ?_⟩; clear Hz Az; intro Az Hz
    refine hK _ _ ?_; clear hK K
    refine goCh Hz (.pickT rfl rfl <| .move rfl <| .nil) ?_
    clear Hz Az; intro Az Hz
    refine bool_cases Hz (t := 31) rfl ?_ ?_
    ·
     clear Hz; intro hb56 Hz
     try simp only [Q1x, Q2x, Q3x, Q4x, Q5x, Q6x, Q7x, Q8x, Q9x, Q0x, Qax, Qbx] at hb56
     have e4 := hb56
     refine goCh Hz (.fieldAddrZ (off := 1) rfl Tryd.underlying30 rfl (s := 0) (by kernel_rfl) rfl <| .loadB1Z m52 (i := 20) rfl rfl rfl Tryd.underlying3 rfl <| .nil) ?_
     clear Hz Az; intro Az Hz
     refine st_ge Hz rfl rfl rfl rfl (fun K hK => ?_)
     refine e_call Hz Tryd.func27 rfl rfl rfl rfl (within_x _ _ _) ?_
     rintro e w59 ⟨rfl, hb59⟩
     have m60 := m52.later hb59
     clear m52
     clear hb59
     refine ⟨_, rfl, ?_⟩; clear Hz Az; intro Az Hz
     refine hK _ _ ?_; clear hK K
     refine goCh Hz (.pickT rfl rfl <| .move rfl <| .nil) ?_
     clear Hz Az; intro Az Hz
     refine bool_cases Hz (t := 36) rfl ?_ ?_
     ·
      clear Hz; intro hb64 Hz
      try simp only [Q1x, Q2x, Q3x, Q4x, Q5x, Q6x, Q7x, Q8x, Q9x, Q0x, Qax, Qbx] at hb64
      have e5 := hb64
      refine goCh Hz (.fieldAddrZ (off := 2) rfl Tryd.underlying30 rfl (s := 0) (by kernel_rfl) rfl <| .loadB1Z m60 (i := 20) rfl rfl rfl Tryd.underlying3 rfl <| .nil) ?_
      clear Hz Az; intro Az Hz
      refine st_ge Hz rfl rfl rfl rfl (fun K hK => ?_)
      refine e_call Hz Tryd.func27 rfl rfl rfl rfl (within_x _ _ _) ?_
      rintro e w67 ⟨rfl, hb67⟩
      have m68 := m60.later hb67
      clear m60
      clear hb67
      refine ⟨_, rfl, ?_⟩; clear Hz Az; intro Az Hz
      refine hK _ _ ?_; clear hK K
      refine goCh Hz (.pickT rfl rfl <| .move rfl <| .nil) ?_
      clear Hz Az; intro Az Hz
      refine bool_cases Hz (t := 41) rfl ?_ ?_
      ·
       clear Hz; intro hb72 Hz
       try simp only [Q1x, Q2x, Q3x, Q4x, Q5x, Q6x, Q7x, Q8x, Q9x, Q0x, Qax, Qbx] at hb72
       have e6 := hb72
       refine goCh Hz (.fieldAddrZ (off := 3) rfl Tryd.underlying30 rfl (s := 0) (by kernel_rfl) rfl <| .loadB1Z m68 (i := 20) rfl rfl rfl Tryd.underlying3 rfl <| .nil) ?_
       clear Hz Az; intro Az Hz
       refine st_ge Hz rfl rfl rfl rfl (fun K hK => ?_)
       refine e_call Hz Tryd.func27 rfl rfl rfl rfl (within_x _ _ _) ?_
       rintro e w75 ⟨rfl, hb75⟩
       have m76 := m68.later hb75
       clear m68
       clear hb75
       refine ⟨_, rfl, ?_⟩; clear Hz Az; intro Az Hz
       refine hK _ _ ?_; clear hK K
       refine goCh Hz (.pickT rfl rfl <| .assign rfl <| .nil) ?_
       clear Hz Az; intro Az Hz
       refine wpList_nil ?_
       refine hK3 _ _ ?_; clear hK3; try clear K3
       refine wp_ret ?_
       try dsimp only [Exit.then, Exit.inBlock]
       refine (ret1 (fn := Tryd.f8) Hz rfl rfl ?_)
       refine ⟨?_, m76.below⟩
       unfold msgR
       first | (rw [hNb]; rfl) | (rw [hNb, hN, decide_eq_false e2]; rfl) | (rw [hNb, hN]; simp [e3]; done) | (rw [hNb, hN]; simp [e3, e4]; done) | (rw [hNb, hN]; simp [e3, e4, e5]; done) | (rw [hNb, hN]; simp [e3, e4, e5, e6]; done)
      ·
       clear Hz; intro hb72 Hz
       try simp only [Q1x, Q2x, Q3x, Q4x, Q5x, Q6x, Q7x, Q8x, Q9x, Q0x, Qax, Qbx] at hb72
       have e6 := hb72
       refine goCh Hz (.sk <| .sk <| .sk <| .pickF rfl rfl <| .assign rfl <| .nil) ?_
       clear Hz Az; intro Az Hz
       refine wpList_nil ?_
       refine hK3 _ _ ?_; clear hK3; try clear K3
       refine wp_ret ?_
       try dsimp only [Exit.then, Exit.inBlock]
       refine (ret1 (fn := Tryd.f8) Hz rfl rfl ?_)
       refine ⟨?_, m68.below⟩
       unfold msgR
       first | (rw [hNb]; rfl) | (rw [hNb, hN, decide_eq_false e2]; rfl) | (rw [hNb, hN]; simp [e3]; done) | (rw [hNb, hN]; simp [e3, e4]; done) | (rw [hNb, hN]; simp [e3, e4, e5]; done) | (rw [hNb, hN]; simp [e3, e4, e5, e6]; done)
     ·
      clear Hz; intro hb64 Hz
      try simp only [Q1x, Q2x, Q3x, Q4x, Q5x, Q6x, Q7x, Q8x, Q9x, Q0x, Qax, Qbx] at hb64
      have e5 := hb64
      refine goCh Hz (.sk <| .sk <| .sk <| .pickF rfl rfl <| .move rfl <| .sk <| .sk <| .sk <| .pickF rfl rfl <| .assign rfl <| .nil) ?_
      clear Hz Az; intro Az Hz
      refine wpList_nil ?_
      refine hK3 _ _ ?_; clear hK3; try clear K3
      refine wp_ret ?_
      try dsimp only [Exit.then, Exit.inBlock]
      refine (ret1 (fn := Tryd.f8) Hz rfl rfl ?_)
      refine ⟨?_, m60.below⟩
      unfold msgR
      first | (rw [hNb]; rfl) | (rw [hNb, hN, decide_eq_false e2]; rfl) | (rw [hNb, hN]; simp [e3]; done) | (rw [hNb, hN]; simp [e3, e4]; done) | (rw [hNb, hN]; simp [e3, e4, e5]; done) | (rw [hNb, hN]; simp [e3, e4, e5, e6]; done)
    ·
     clear Hz; intro hb56 Hz
     try simp only [Q1x, Q2x, Q3x, Q4x, Q5x, Q6x, Q7x, Q8x, Q9x, Q0x, Qax, Qbx] at hb56
     have e4 := hb56
     refine goCh Hz (.sk <| .sk <| .sk <| .pickF rfl rfl <| .move rfl <| .sk <| .sk <| .sk <| .pickF rfl rfl <| .move rfl <| .sk <| .sk <| .sk <| .pickF rfl rfl <| .assign rfl <| .nil) ?_
     clear Hz Az; intro Az Hz
     refine wpList_nil ?_
     refine hK3 _ _ ?_; clear hK3; try clear K3
     refine wp_ret ?_
     try dsimp only [Exit.then, Exit.inBlock]
     refine (ret1 (fn := Tryd.f8) Hz rfl rfl ?_)
     refine ⟨?_, m52.below⟩
     unfold msgR
     first | (rw [hNb]; rfl) | (rw [hNb, hN, decide_eq_false e2]; rfl) | (rw [hNb, hN]; simp [e3]; done) | (rw [hNb, hN]; simp [e3, e4]; done) | (rw [hNb, hN]; simp [e3, e4, e5]; done) | (rw [hNb, hN]; simp [e3, e4, e5, e6]; done)
   ·
    clear Hz; intro hb49 Hz
    try simp only [Q1x, Q2x, Q3x, Q4x, Q5x, Q6x, Q7x, Q8x, Q9x, Q0x, Qax, Qbx] at hb49
    have e3 := hb49
    refine goCh Hz (.sk <| .sk <| .pickF rfl rfl <| .move rfl <| .sk <| .sk <| .sk <| .pickF rfl rfl <| .move rfl <| .sk <| .sk <| .sk <| .pickF rfl rfl <| .move rfl <| .sk <| .sk <| .sk <| .pickF rfl rfl <| .assign rfl <| .nil) ?_
    clear Hz Az; intro Az Hz
    refine wpList_nil ?_
    refine hK3 _ _ ?_; clear hK3; try clear K3
    refine wp_ret ?_
    try dsimp only [Exit.then, Exit.inBlock]
    refine (ret1 (fn := Tryd.f8) Hz rfl rfl ?_)
    refine ⟨?_, m45.below⟩
    unfold msgR
    first | (rw [hNb]; rfl) | (rw [hNb, hN, decide_eq_false e2]; rfl) | (rw [hNb, hN]; simp [e3]; done) | (rw [hNb, hN]; simp [e3, e4]; done) | (rw [hNb, hN]; simp [e3, e4, e5]; done) | (rw [hNb, hN]; simp [e3, e4, e5, e6]; done)
  ·
   clear Hz; intro hb42 Hz
   try simp only [Q1x, Q2x, Q3x, Q4x, Q5x, Q6x, Q7x, Q8x, Q9x, Q0x, Qax, Qbx] at hb42
   have e2 := hb42
   refine goCh Hz (.sk <| .sk <| .pickF rfl rfl <| .move rfl <| .sk <| .sk <| .pickF rfl rfl <| .move rfl <| .sk <| .sk <| .sk <| .pickF rfl rfl <| .move rfl <| .sk <| .sk <| .sk <| .pickF rfl rfl <| .move rfl <| .sk <| .sk <| .sk <| .pickF rfl rfl <| .assign rfl <| .nil) ?_
   clear Hz Az; intro Az Hz
   refine wpList_nil ?_
   refine hK3 _ _ ?_; clear hK3; try clear K3
   refine wp_ret ?_
   try dsimp only [Exit.then, Exit.inBlock]
   refine (ret1 (fn := Tryd.f8) Hz rfl rfl ?_)
   refine ⟨?_, m28.below⟩
   unfold msgR
   first | (rw [hNb]; rfl) | (rw [hNb, hN, decide_eq_false e2]; rfl) | (rw [hNb, hN]; simp [e3]; done) | (rw [hNb, hN]; simp [e3, e4]; done) | (rw [hNb, hN]; simp [e3, e4, e5]; done) | (rw [hNb, hN]; simp [e3, e4, e5, e6]; done)
 ·
  clear Hz; intro hb35 Hz
  try simp only [Q1x, Q2x, Q3x, Q4x, Q5x, Q6x, Q7x, Q8x, Q9x, Q0x, Qax, Qbx] at hb35
  obtain rfl : nb = false := hb35
  refine goCh Hz (.sk <| .sk <| .sk <| .sk <| .pickF rfl rfl <| .move rfl <| .sk <| .sk <| .pickF rfl rfl <| .move rfl <| .sk <| .sk <| .pickF rfl rfl <| .move rfl <| .sk <| .sk <| .sk <| .pickF rfl rfl <| .move rfl <| .sk <| .sk <| .sk <| .pickF rfl rfl <| .move rfl <| .sk <| .sk <| .sk <| .pickF rfl rfl <| .assign rfl <| .nil) ?_
  clear Hz Az; intro Az Hz
  refine wpList_nil ?_
  refine hK3 _ _ ?_; clear hK3; try clear K3
  refine wp_ret ?_
  try dsimp only [Exit.then, Exit.inBlock]
  refine (ret1 (fn := Tryd.f8) Hz rfl rfl ?_)
  refine ⟨?_, m28.below⟩
  unfold msgR
  first | (rw [hNb]; rfl) | (rw [hNb, hN, decide_eq_false e2]; rfl) | (rw [hNb, hN]; simp [e3]; done) | (rw [hNb, hN]; simp [e3, e4]; done) | (rw [hNb, hN]; simp [e3, e4, e5]; done) | (rw [hNb, hN]; simp [e3, e4, e5, e6]; done)
end Go.Proofs.YtmoghepeggohhaaDoor.K
