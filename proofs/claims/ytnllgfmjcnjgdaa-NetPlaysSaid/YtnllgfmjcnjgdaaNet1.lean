/- net: New, copied, Len, has, Send. -/
import Derived.Test.YtnllgfmjcnjgdaaAb8
namespace Go.Proofs.Ytnllgfmjcnjgdaa.K
open Go.ChangeShapes Go.WideShapes Go.ChangeAt Go.RowKit
set_option linter.unusedVariables false
set_option linter.unusedSimpArgs false

theorem fl48n : flatS Try.prog 48 [.slice none 0 0] = true := by kernel_rfl
theorem zc48n : ((Try.prog.info? 48).bind (·.zero)).map (·.cells.toList) = some [.slice none 0 0] := by kernel_rfl
theorem inf5c : (Try.prog.info? 5).map (fun i => (i.zero, i.size, i.bytes)) = some (some (.int .u8 0), 1, 1) := by kernel_rfl
theorem sz33c : (Try.prog.info? 33).map (·.size) = some 1 := by kernel_rfl
theorem sz35c : (Try.prog.info? 35).map (·.size) = some 3 := by kernel_rfl
theorem zc35c : ((Try.prog.info? 35).bind (·.zero)).map (·.cells.toList) = some [.int .i64 0, .int .i64 0, .slice none 0 0] := by kernel_rfl


theorem inf35s : (Try.prog.info? 35).map (fun i => (i.zero, i.size, i.bytes)) = some (some (.agg #[.int .i64 0, .int .i64 0, .slice none 0 0]), 3, 40) := by kernel_rfl
theorem sz27s : (Try.prog.info? 27).map (·.size) = some 1 := by kernel_rfl
theorem sz35s : (Try.prog.info? 35).map (·.size) = some 3 := by kernel_rfl
theorem zc35s : ((Try.prog.info? 35).bind (·.zero)).map (·.cells.toList) = some [.int .i64 0, .int .i64 0, .slice none 0 0] := by kernel_rfl

def flD (f : Int × Int × List Int) : List D := [.v (.int .i64 f.1), .v (.int .i64 f.2.1), .ns .u8 f.2.2]
theorem fl_get {A : List (Int × Int × List Int)} {k : Nat} {f t : Int} {d : List Int} (h : A[k]? = some (f, t, d)) : (A.map flD)[k]? = some [.v (.int .i64 f), .v (.int .i64 t), .ns .u8 d] := by simp [h, flD]
theorem take_snoc {α : Type} {l : List α} {k : Nat} {x : α} (h : l[k]? = some x) : l.take (k + 1) = l.take k ++ [x] := by
  have hk := (List.getElem?_eq_some_iff.1 h)
  obtain ⟨hk, e⟩ := hk
  rw [List.take_succ_eq_append_getElem hk, e]
theorem Blk.rangeAt {w : World} {g : Nat} {e : TypeId} {cs : List Value} (h : Blk w g e cs) : w.rangeAt g 0 cs := fun j v hj => by rw [Nat.zero_add, h.cell]; exact hj
theorem freeP {S : Nat → Prop} {w : World} {B : Nat} {pt e : TypeId} {v : Value} {mm : Nat} {rows : List (List D)} {b : Nat} (h : S b ∧ b ≠ B ∧ v.ownBlock ≠ some b) : Free (cxp S w B v) [(1, .box B pt [v]), (2, .seg v e mm rows)] b := by
  refine ⟨fun _ => h.1, ?_⟩
  rintro ⟨q, s, hq, hss⟩
  rw [lk_cons] at hq
  split at hq
  · cases hq; injection hss with hss; exact h.2.1 hss.symm
  · rw [lk_cons] at hq
    split at hq
    · cases hq; exact h.2.2 hss
    · cases hq
theorem has_t {q : Int} {n : Nat} (h : 0 ≤ q) : decide (q < (n : Int)) = decide (0 ≤ q ∧ q < (n : Int)) := decide_eq_decide.2 ⟨fun h1 => ⟨h, h1⟩, fun h1 => h1.2⟩
theorem has_f {q : Int} {n : Nat} (h : q < 0) : false = decide (0 ≤ q ∧ q < (n : Int)) := (decide_eq_false (fun h1 => by omega)).symm
set_option maxRecDepth 100000
set_option maxHeartbeats 4000000
theorem new_any (w0 : World) : Calls Try.prog 7 #[] w0 fun e w' => ∃ B, e = .returned (.pointer (some ⟨B, 0, none⟩)) ∧ (Blk w' B 48 [.slice none 0 0] ∧ (w0.heap.size ≤ B ∨ B ∈ (cx (fun _ => True) w0).bad)) ∧ Below w0.heap.size w0 w' := by
  refine enter (fn := Try.f7) Try.func7 rfl Try.ntmps7 rfl (fun a0 ha0 => ?_)
  simp only [List.zipIdx_cons, List.zipIdx_nil, List.map_cons, List.map_nil, Nat.reduceAdd, Nat.zero_add] at ha0
  have m0 := MemOk.start (fun _ => True) w0
  refine wp_seq_k (fun K0 hK0 => ?_)
  refine wp_region_lit ?_
  refine st_y ha0 rfl (y_assign ha0 rfl) ?_
  clear ha0 a0; intro a1 ha1
  refine wpList_nil ?_
  refine hK0 _ _ ?_; clear hK0; try clear K0
  refine wp_seq_k (fun K1 hK1 => ?_)
  refine wp_region_lit ?_
  refine st_y ha1 rfl (y_build ha1 rfl zc48n fl48n rfl (by dsimp only [setL, List.set] <;> rfl)) ?_
  clear ha1 a1; intro a2 ha2
  refine wpList_plain rfl (fun K hK => ?_)
  refine e_box ha2 m0 1 (cs := [_]) rfl rfl rfl ?_
  clear ha2 a2 m0; intro g3 a4 w4 ha4 m4 hB4 hg4
  clear hB4 hg4
  refine hK _ _ ?_; clear hK K
  refine st_y ha4 rfl (y_assign ha4 rfl) ?_
  clear ha4 a4; intro a5 ha5
  refine wpList_nil ?_
  refine hK1 _ _ ?_; clear hK1; try clear K1
  refine wp_ret ?_
  try dsimp only [Exit.then, Exit.inBlock]
  refine (ret1 (fn := Try.f7) ha5 rfl rfl ?_)
  exact ⟨_, rfl, m4.ok 1 _ rfl, m4.below⟩
theorem copied_any (S : Nat → Prop) (f t : Int) (d : List Int) (p : Option Addr) (c : Nat) (w0 : World) (h0 : Rd S w0 (.slice p d.length c) (.ns .u8 d)) (hd : d.length ≤ 100000) : Calls Try.prog 17 #[.agg #[.int .i64 f, .int .i64 t, .slice p d.length c]] w0 fun e w' => ∃ u c', e = .returned (.agg #[.int .i64 f, .int .i64 t, .slice u d.length c']) ∧ w'.ownsRow w0.heap.size 5 1 (.slice u d.length c') d.length (d.map (Value.int .u8)) ∧ Below w0.heap.size w0 w' := by
  refine enter (fn := Try.f17) Try.func17 rfl Try.ntmps17 rfl (fun a0 ha0 => ?_)
  simp only [List.zipIdx_cons, List.zipIdx_nil, List.map_cons, List.map_nil, Nat.reduceAdd, Nat.zero_add] at ha0
  have m0 := (MemOk.start (fun _ => True) w0).dat 1 rfl (h0.cast (fun _ h => free_nil (fun _ => trivial)))
  refine wp_seq_k (fun K0 hK0 => ?_)
  refine wp_region_lit ?_
  refine wpList_plain rfl (fun K hK => ?_)
  refine e_box ha0 m0 2 (cs := [_, _, _]) rfl rfl rfl ?_
  clear ha0 a0 m0; intro g1 a2 w2 ha2 m2 hB2 hg2
  clear hB2 hg2
  refine hK _ _ ?_; clear hK K
  refine wpList_plain rfl (fun K hK => ?_)
  refine e_alloc ha2 m2 3 zc35c rfl ?_
  clear ha2 a2 m2; intro g3 a4 w4 ha4 m4 hB4 hg4
  clear hB4 hg4
  refine hK _ _ ?_; clear hK K
  refine wpList_nil ?_
  refine hK0 _ _ ?_; clear hK0; try clear K0
  refine wp_seq_k (fun K1 hK1 => ?_)
  refine wp_region_lit ?_
  refine st_y ha4 rfl (y_fieldAddr ha4 (off := 2) rfl Try.underlying35 rfl (s := 0) (by kernel_rfl) rfl) ?_
  clear ha4 a4; intro a5 ha5
  refine st_y ha5 rfl (y_loadB1 ha5 m4 (i := 2) rfl rfl rfl Try.underlying33 rfl) ?_
  clear ha5 a5; intro a6 ha6
  refine wpList_plain rfl (fun K hK => ?_)
  refine e_app0N ha6 m4 4 rfl rfl (m4.nums (i := 1) rfl) Try.underlying33 inf5c (by decide) (by omega) rfl ?_
  clear ha6 a6 m4; intro p7 c7 a8 w8 ha8 m8 
  refine hK _ _ ?_; clear hK K
  refine st_y ha8 rfl (y_fieldAddr ha8 (off := 2) rfl Try.underlying35 rfl (s := 0) (by kernel_rfl) rfl) ?_
  clear ha8 a8; intro a9 ha9
  refine wpList_plain rfl (fun K hK => ?_)
  refine e_store1 ha9 m8 2 rfl rfl rfl rfl rfl sz33c (by dsimp only [List.set] <;> rfl) ?_
  clear m8; intro w10 m10 hB10
  clear hB10
  refine hK _ _ ?_; clear hK K
  refine wpList_nil ?_
  refine hK1 _ _ ?_; clear hK1; try clear K1
  refine wp_seq_k (fun K2 hK2 => ?_)
  refine wp_region_lit ?_
  refine st_y ha9 rfl (y_loadBR ha9 m10 (i := 2) rfl rfl Try.underlying35 rfl sz35c (by simp) (by dsimp only [List.drop, List.take] <;> rfl)) ?_
  clear ha9 a9; intro a11 ha11
  refine wpList_plain rfl (fun K hK => ?_)
  refine e_storeW ha11 m10 3 rfl rfl rfl rfl rfl sz35c ?_
  clear m10; intro w12 m12 hB12
  clear hB12
  refine hK _ _ ?_; clear hK K
  refine wpList_nil ?_
  refine hK2 _ _ ?_; clear hK2; try clear K2
  refine wp_ret ?_
  try dsimp only [Exit.then, Exit.inBlock]
  refine (retC (fn := Try.f17) ha11 m12 (i := 3) rfl rfl rfl Try.underlying35 rfl sz35c ?_)
  exact ⟨_, _, rfl, m12.outN (i := 4) rfl, m12.below⟩
theorem len_any (B n c : Nat) (p : Option Addr) (w0 : World) (hB : Blk w0 B 48 [.slice p n c]) : Calls Try.prog 15 #[.pointer (some ⟨B, 0, none⟩)] w0 fun e w' => e = .returned (.int .i64 n) ∧ Below w0.heap.size w0 w' := by
  refine enter (fn := Try.f15) Try.func15 rfl Try.ntmps15 rfl (fun a0 ha0 => ?_)
  simp only [List.zipIdx_cons, List.zipIdx_nil, List.map_cons, List.map_nil, Nat.reduceAdd, Nat.zero_add] at ha0
  have m0 := (MemOk.start (fun _ => True) w0).cel 1 rfl (free_nil (fun _ => trivial)) hB.lt (Blk.rangeAt hB)
  refine wp_seq_k (fun K0 hK0 => ?_)
  refine wp_region_lit ?_
  refine st_y ha0 rfl (y_assign ha0 rfl) ?_
  clear ha0 a0; intro a1 ha1
  refine wpList_nil ?_
  refine hK0 _ _ ?_; clear hK0; try clear K0
  refine wp_seq_k (fun K1 hK1 => ?_)
  refine wp_region_lit ?_
  refine st_y ha1 rfl (y_move ha1 rfl) ?_
  clear ha1 a1; intro a2 ha2
  refine st_y ha2 rfl (y_nilCheck ha2 rfl) ?_
  clear ha2 a2; intro a3 ha3
  refine st_y ha3 rfl (y_fieldAddrQ ha3 0 rfl Try.underlying48 rfl (s := 0) (by kernel_rfl) rfl) ?_
  clear ha3 a3; intro a4 ha4
  refine st_y ha4 rfl (y_loadC0 ha4 m0 (i := 1) rfl rfl Try.underlying27 rfl) ?_
  clear ha4 a4; intro a5 ha5
  refine st_y ha5 rfl (y_len ha5 rfl Try.underlying27) ?_
  clear ha5 a5; intro a6 ha6
  refine st_y ha6 rfl (y_assign ha6 rfl) ?_
  clear ha6 a6; intro a7 ha7
  refine wpList_nil ?_
  refine hK1 _ _ ?_; clear hK1; try clear K1
  refine wp_ret ?_
  try dsimp only [Exit.then, Exit.inBlock]
  refine (ret1 (fn := Try.f15) ha7 rfl rfl ?_)
  exact ⟨rfl, m0.below⟩
theorem has_any (B n c : Nat) (p : Option Addr) (q : Int) (w0 : World) (hB : Blk w0 B 48 [.slice p n c]) : Calls Try.prog 18 #[.pointer (some ⟨B, 0, none⟩), .int .i64 q] w0 fun e w' => e = .returned (.bool (decide (0 ≤ q ∧ q < (n : Int)))) ∧ Below w0.heap.size w0 w' := by
  refine enter (fn := Try.f18) Try.func18 rfl Try.ntmps18 rfl (fun a0 ha0 => ?_)
  simp only [List.zipIdx_cons, List.zipIdx_nil, List.map_cons, List.map_nil, Nat.reduceAdd, Nat.zero_add] at ha0
  have m0 := (MemOk.start (fun _ => True) w0).cel 1 rfl (free_nil (fun _ => trivial)) hB.lt (Blk.rangeAt hB)
  refine wp_seq_k (fun K0 hK0 => ?_)
  refine wp_region_lit ?_
  refine st_y ha0 rfl (y_assign ha0 rfl) ?_
  clear ha0 a0; intro a1 ha1
  refine wpList_nil ?_
  refine hK0 _ _ ?_; clear hK0; try clear K0
  refine wp_seq_k (fun K1 hK1 => ?_)
  refine wp_region_lit ?_
  refine st_y ha1 rfl (y_move ha1 rfl) ?_
  clear ha1 a1; intro a2 ha2
  refine st_y ha2 rfl (y_geq ha2 rfl rfl) ?_
  clear ha2 a2; intro a3 ha3
  refine st_y ha3 rfl (y_move ha3 rfl) ?_
  clear ha3 a3; intro a4 ha4
  refine bool_cases ha4 (t := 7) rfl (fun hb5 ha5 => ?_) (fun hb5 ha5 => ?_)
  · skip
    clear ha4
    try simp only [decide_eq_true_eq, decide_eq_false_iff_not, Bool.not_eq_true, Bool.not_eq_false, Bool.not_eq_eq_eq_not, Bool.not_true, Bool.not_false, Bool.not_not, Int.not_lt, Int.not_le, ne_eq, Decidable.not_not] at hb5
    refine st_g ha5 rfl rfl rfl rfl (y_move ha5 rfl) ?_
    clear ha5 a4; intro a6 ha6
    refine st_g ha6 rfl rfl rfl rfl (y_move ha6 rfl) ?_
    clear ha6 a6; intro a7 ha7
    refine st_g ha7 rfl rfl rfl rfl (y_nilCheck ha7 rfl) ?_
    clear ha7 a7; intro a8 ha8
    refine st_g ha8 rfl rfl rfl rfl (y_fieldAddrQ ha8 0 rfl Try.underlying48 rfl (s := 0) (by kernel_rfl) rfl) ?_
    clear ha8 a8; intro a9 ha9
    refine st_g ha9 rfl rfl rfl rfl (y_loadC0 ha9 m0 (i := 1) rfl rfl Try.underlying27 rfl) ?_
    clear ha9 a9; intro a10 ha10
    refine st_g ha10 rfl rfl rfl rfl (y_len ha10 rfl Try.underlying27) ?_
    clear ha10 a10; intro a11 ha11
    refine st_g ha11 rfl rfl rfl rfl (y_lss ha11 rfl rfl) ?_
    clear ha11 a11; intro a12 ha12
    refine st_y ha12 rfl (y_pickT ha12 rfl rfl) ?_
    clear ha12 a12; intro a13 ha13
    refine st_y ha13 rfl (y_assign ha13 rfl) ?_
    clear ha13 a13; intro a14 ha14
    refine wpList_nil ?_
    refine hK1 _ _ ?_; clear hK1; try clear K1
    refine wp_ret ?_
    try dsimp only [Exit.then, Exit.inBlock]
    refine (ret1 (fn := Try.f18) ha14 rfl rfl ?_)
    exact ⟨by rw [has_t hb5], m0.below⟩
  · skip
    clear ha4
    try simp only [decide_eq_true_eq, decide_eq_false_iff_not, Bool.not_eq_true, Bool.not_eq_false, Bool.not_eq_eq_eq_not, Bool.not_true, Bool.not_false, Bool.not_not, Int.not_lt, Int.not_le, ne_eq, Decidable.not_not] at hb5
    refine st_skip ha5 rfl rfl rfl rfl ?_
    clear ha5 a4; intro a15 ha15
    refine st_skip ha15 rfl rfl rfl rfl ?_
    clear ha15 a15; intro a16 ha16
    refine st_skip ha16 rfl rfl rfl rfl ?_
    clear ha16 a16; intro a17 ha17
    refine st_skip ha17 rfl rfl rfl rfl ?_
    clear ha17 a17; intro a18 ha18
    refine st_skip ha18 rfl rfl rfl rfl ?_
    clear ha18 a18; intro a19 ha19
    refine st_skip ha19 rfl rfl rfl rfl ?_
    clear ha19 a19; intro a20 ha20
    refine st_skip ha20 rfl rfl rfl rfl ?_
    clear ha20 a20; intro a21 ha21
    refine st_y ha21 rfl (y_pickF ha21 rfl rfl) ?_
    clear ha21 a21; intro a22 ha22
    refine st_y ha22 rfl (y_assign ha22 rfl) ?_
    clear ha22 a22; intro a23 ha23
    refine wpList_nil ?_
    refine hK1 _ _ ?_; clear hK1; try clear K1
    refine wp_ret ?_
    try dsimp only [Exit.then, Exit.inBlock]
    refine (ret1 (fn := Try.f18) ha23 rfl rfl ?_)
    exact ⟨by rw [has_f hb5], m0.below⟩
theorem send_any (S : Nat → Prop) (B : Nat) (v0 : Value) (rows : List (List D)) (fl : List (Int × Int × List Int)) (pl : Option Addr) (cl : Nat) (w0 : World) (hB : Blk w0 B 48 [v0]) (hs : SegOk (fun b => S b ∧ b ≠ B ∧ v0.ownBlock ≠ some b) w0 v0 35 3 rows) (hne : v0.ownBlock ≠ some B) (hl : Rd (fun b => S b ∧ b ≠ B ∧ v0.ownBlock ≠ some b) w0 (.slice pl fl.length cl) (.l 3 (fl.map flD))) (hn : rows.length ≤ 1000 ∧ fl.length ≤ 1000) (hfd : ∀ f ∈ fl, f.2.2.length ≤ 100000) :
    Calls Try.prog 8 #[.pointer (some ⟨B, 0, none⟩), .slice pl fl.length cl] w0 fun e w' => e = .returned (.tuple #[]) ∧ ∃ v', PoolAt S w0 B 48 35 3 v0 (rows ++ fl.map flD) w' v' := by
  refine enter (fn := Try.f8) Try.func8 rfl Try.ntmps8 rfl (fun a0 ha0 => ?_)
  simp only [List.zipIdx_cons, List.zipIdx_nil, List.map_cons, List.map_nil, Nat.reduceAdd, Nat.zero_add] at ha0
  have m00 := (MemOk.startP S w0 hB hs hne).dat 3 rfl (hl.cast (fun b h => freeP h))
  obtain ⟨p, c, hv⟩ := hs.shape
  have hR0 : rows ++ (fl.take 0).map flD = rows := by simp
  have m0 : MemOk (cxp S w0 B v0) w0 [(1, .box B 48 [.slice p (rows ++ (fl.take 0).map flD).length c]), (2, .seg (.slice p (rows ++ (fl.take 0).map flD).length c) 35 3 (rows ++ (fl.take 0).map flD)), (3, .dat (.slice pl fl.length cl) (.l 3 (fl.map flD)))] w0 := by
    rw [hR0, ← hv]; exact m00.only [1, 2, 3]
  clear m00
  refine wp_seq_k (fun K0 hK0 => ?_)
  refine wp_region_lit ?_
  refine st_y ha0 rfl (y_move ha0 rfl) ?_
  clear ha0 a0; intro a1 ha1
  refine st_y ha1 rfl (y_len ha1 rfl Try.underlying27) ?_
  clear ha1 a1; intro a2 ha2
  refine st_y ha2 rfl (y_move ha2 rfl) ?_
  clear ha2 a2; intro a3 ha3
  refine wpList_nil ?_
  refine hK0 _ _ ?_; clear hK0; try clear K0
  refine wp_block ?_
  refine wp_loop_ghost (fun g a w => ∃ (k : Nat) (p pl : Option Addr) (c cl : Nat), k ≤ fl.length ∧ g = fl.length - k ∧ Has 24 [(0, .pointer (some ⟨B, 0, none⟩)), (6, .slice pl fl.length cl), (7, .int .i64 fl.length), (8, .int .i64 k)] a ∧ MemOk (cxp S w0 B v0) w0 [(1, .box B 48 [.slice p (rows ++ (fl.take k).map flD).length c]), (2, .seg (.slice p (rows ++ (fl.take k).map flD).length c) 35 3 (rows ++ (fl.take k).map flD)), (3, .dat (.slice pl fl.length cl) (.l 3 (fl.map flD)))] w) (fl.length) ?_ ?_
  · exact ⟨0, _, _, _, _, Nat.zero_le _, rfl, ha3.only [0, 6, 7, 8], m0.only [1, 2, 3]⟩
  · skip
    clear ha3 m0
    rintro g a4 w4 ⟨k, p, pl, c, cl, hkl, hg, ha4, m4⟩
    refine wp_seq_k (fun K1 hK1 => ?_)
    refine wp_region_lit ?_
    refine st_y ha4 rfl (y_lss ha4 rfl rfl) ?_
    clear ha4 a4; intro a5 ha5
    refine wpList_nil ?_
    refine hK1 _ _ ?_; clear hK1; try clear K1
    refine wp_seq_k (fun K2 hK2 => ?_)
    refine bool_cases ha5 (t := 9) rfl (fun hb6 ha6 => ?_) (fun hb6 ha6 => ?_)
    · skip
      clear ha5
      try simp only [decide_eq_true_eq, decide_eq_false_iff_not, Bool.not_eq_true, Bool.not_eq_false, Bool.not_eq_eq_eq_not, Bool.not_true, Bool.not_false, Bool.not_not, Int.not_lt, Int.not_le, ne_eq, Decidable.not_not] at hb6
      have hk : k < fl.length := by omega
      obtain ⟨⟨ff, ft, fd⟩, hfl⟩ : ∃ e, fl[k]? = some e := ⟨_, List.getElem?_eq_getElem hk⟩
      have hfd1 := hfd _ (List.mem_of_getElem? hfl)
      dsimp only at hfd1
      refine wp_cond_true (ha6.ev (x := .tmp 9) rfl) ?_
      refine wp_skip ?_
      refine hK2 _ _ ?_; clear hK2; try clear K2
      refine wp_seq_k (fun K3 hK3 => ?_)
      refine wp_block ?_
      refine wp_seq_k (fun K4 hK4 => ?_)
      refine wp_region_lit ?_
      obtain ⟨b7, o7, vs7, hp7, hR7, ho7, m7⟩ := m4.openR (i := 3) rfl (k) (r := [.v (.int .i64 ff), .v (.int .i64 ft), .ns .u8 fd]) (fl_get hfl) 100 rfl
      cases hp7; clear m4 ho7
      rcases hR7 with _ | ⟨hd7_0, _ | ⟨hd7_1, _ | ⟨hd7_2, _ | _⟩⟩⟩
      obtain rfl := hd7_0.v_out
      clear hd7_0
      obtain rfl := hd7_1.v_out
      clear hd7_1
      obtain ⟨p8, c8, hv8, hc8⟩ := hd7_2.ns_shape; subst hv8
      have m8 := m7.dat 101 rfl (hd7_2.cast (fun _ h => (free_add rfl h))); clear m7 hd7_2
      refine st_y ha6 rfl (y_idx ha6 rfl rfl Try.underlying27 sz35s (k) rfl hk) ?_
      clear ha6 a5; intro a9 ha9
      refine st_y ha9 rfl (y_loadCR ha9 m8 (i := 100) rfl rfl Try.underlying35 rfl sz35s) ?_
      clear ha9 a9; intro a10 ha10
      refine wpList_plain rfl (fun K hK => ?_)
      refine e_alloc ha10 m8 102 zc35s rfl ?_
      clear ha10 a10 m8; intro g11 a12 w12 ha12 m12 hB12 hg12
      clear hB12 hg12
      refine hK _ _ ?_; clear hK K
      refine wpList_plain rfl (fun K hK => ?_)
      refine e_storeW ha12 m12 102 rfl rfl rfl rfl rfl sz35s ?_
      clear m12; intro w13 m13 hB13
      clear hB13
      refine hK _ _ ?_; clear hK K
      refine wpList_nil ?_
      refine hK4 _ _ ?_; clear hK4; try clear K4
      have m14 : MemOk _ _ [(1, _), (2, _), (3, _), (100, _), (101, _), (102, _)] _ := m13.only [1, 2, 3, 100, 101, 102]; clear m13
      refine region_m 8 (B := [(1, _), (2, _), (3, _), (100, _), (101, _), (102, _)]) (m14.to ⟨.inl rfl, .inl rfl, .inl rfl, .inl rfl, .inl rfl, .inl rfl, trivial⟩) m14 (by kernel_rfl) (fun w15 mB15 m15 => ?_); clear m14 mB15
      refine d_y 0 ha12 rfl rfl (fun _ => (m15.to ⟨.inl rfl, .inl rfl, .inl rfl, .inl rfl, .inl rfl, .inl rfl, trivial⟩)) (by kernel_rfl) (by kernel_rfl) (by kernel_rfl) (by rfl) (fun _ _ _ h => h) (fun W => y_move ha12 rfl) ?_
      clear ha12 a12; intro a16 ha16
      refine d_y 1 ha16 rfl rfl (fun _ => (m15.to ⟨.inl rfl, .inl rfl, .inl rfl, .inl rfl, .inl rfl, .inl rfl, trivial⟩)) (by kernel_rfl) (by kernel_rfl) (by kernel_rfl) (by rfl) (fun _ _ _ h => h) (fun W => y_move ha16 rfl) ?_
      clear ha16 a16; intro a17 ha17
      refine d_y 2 ha17 rfl rfl (fun _ => (m15.to ⟨.inl rfl, .inl rfl, .inl rfl, .inl rfl, .inl rfl, .inl rfl, trivial⟩)) (by kernel_rfl) (by kernel_rfl) (by kernel_rfl) (by rfl) (fun _ _ _ h => h) (fun W => y_nilCheck ha17 rfl) ?_
      clear ha17 a17; intro a18 ha18
      refine d_y 3 ha18 rfl rfl (fun _ => (m15.to ⟨.inl rfl, .inl rfl, .inl rfl, .inl rfl, .inl rfl, .inl rfl, trivial⟩)) (by kernel_rfl) (by kernel_rfl) (by kernel_rfl) (by rfl) (fun _ _ _ h => h) (fun W => y_fieldAddr ha18 (off := 0) rfl Try.underlying48 rfl (s := 0) (by kernel_rfl) rfl) ?_
      clear ha18 a18; intro a19 ha19
      refine d_r 4 ha19 rfl rfl (m15.to ⟨.inl rfl, .inl rfl, .inl rfl, .inl rfl, .inl rfl, .inl rfl, trivial⟩) (by kernel_rfl) (by kernel_rfl) (by kernel_rfl) (by kernel_rfl) (by kernel_rfl) (fun _ _ _ h => h) (fun W hW => y_loadB1 ha19 hW (i := 1) rfl rfl rfl Try.underlying27 rfl) ?_
      clear ha19 a19; intro a20 ha20
      refine d_r 5 ha20 rfl rfl (m15.to ⟨.inl rfl, .inl rfl, .inl rfl, .inl rfl, .inl rfl, .inl rfl, trivial⟩) (by kernel_rfl) (by kernel_rfl) (by kernel_rfl) (by kernel_rfl) (by kernel_rfl) (fun _ _ _ h => h) (fun W hW => y_loadBR ha20 hW (i := 102) rfl rfl Try.underlying35 rfl sz35s (by simp) (by dsimp only [List.drop, List.take] <;> rfl)) ?_
      clear ha20 a20; intro a21 ha21
      refine stepE_only 6 rfl (by kernel_rfl) rfl (fun K hK => ?_)
      refine e_call ha21 Try.func17 rfl rfl rfl rfl (copied_any _ _ _ _ _ _ _ (m15.rd (i := 101) rfl).any hfd1) ?_
      rintro e w22 ⟨u22, c22, rfl, ho22, hb22⟩
      have m23 := m15.newN 103 hb22 ho22
      clear m15
      clear hb22 ho22
      refine ⟨_, rfl, fun a24 ha24 => ?_⟩; clear ha21 a21
      refine hK _ _ (m23.to ⟨.inl rfl, .inl rfl, .inl rfl, .inl rfl, .inl rfl, .inl rfl, trivial⟩) ?_; clear hK K
      have m26 := m23.freezeN 103 rfl; clear m23
      refine stepE_only 7 rfl (by kernel_rfl) rfl (fun K hK => ?_)
      refine e_litR ha24 m26 104 (mm := 3) rfl (.cons rfl rfl (.cons (.v _) (.cons (.v _) (.cons (m26.rd (i := 103) rfl) .nil))) <| .nil) Try.underlying27 inf35s rfl rfl rfl rfl rfl ?_
      clear ha24 a24 m26; intro g25 a27 w27 ha27 m27 
      refine hK _ _ (m27.to ⟨.inl rfl, .inl rfl, .inl rfl, .inl rfl, .inl rfl, .inl rfl, trivial⟩) ?_; clear hK K
      have m29 := m27.freezeR 104 rfl; clear m27
      refine stepE_end 8 rfl (by kernel_rfl) rfl (by rfl) (fun K hK => ?_)
      refine e_appSA ha27 m29 2 rfl rfl rfl (m29.rd (i := 104) rfl).cells Try.underlying27 inf35s rfl rfl (by decide) (by simp; omega) rfl ?_
      clear ha27 a27 m29; intro p28 c28 a30 w30 ha30 m30 
      refine hK _ _ ?_; clear hK K
      refine d_y 9 ha30 rfl rfl (fun h => (Bool.false_ne_true (h.symm.trans (by rfl))).elim) (by kernel_rfl) (by kernel_rfl) (by kernel_rfl) (by rfl) (fun _ _ _ h => h) (fun W => y_nilCheck ha30 rfl) ?_
      clear ha30 a30; intro a31 ha31
      refine d_y 10 ha31 rfl rfl (fun h => (Bool.false_ne_true (h.symm.trans (by rfl))).elim) (by kernel_rfl) (by kernel_rfl) (by kernel_rfl) (by rfl) (fun _ _ _ h => h) (fun W => y_fieldAddr ha31 (off := 0) rfl Try.underlying48 rfl (s := 0) (by kernel_rfl) rfl) ?_
      clear ha31 a31; intro a32 ha32
      refine stepE_end 11 rfl (by kernel_rfl) rfl (by rfl) (fun K hK => ?_)
      refine e_store1 ha32 m30 1 rfl rfl rfl rfl rfl sz27s (by dsimp only [List.set] <;> rfl) ?_
      clear m30; intro w33 m33 hB33
      clear hB33
      refine hK _ _ ?_; clear hK K
      refine wpAnyE_done (by kernel_rfl) ?_ _
      refine hK3 _ _ ?_; clear hK3; try clear K3
      have ha34 : Has 24 [(0, _), (6, _), (7, _), (8, _)] a32 := ha32.only [0, 6, 7, 8]; clear ha32
      refine wp_region_lit ?_
      refine st_y ha34 rfl (y_add ha34 rfl rfl (r := ((k + 1 : Nat) : Int)) (by rw [IntWalk.i64_in _ (by omega)]; omega)) ?_
      clear ha34 a32; intro a35 ha35
      refine st_y ha35 rfl (y_move ha35 rfl) ?_
      clear ha35 a35; intro a36 ha36
      refine wpList_nil ?_
      show ∃ n', n' < _ ∧ _
      have hE : (rows ++ (fl.take k).map flD) ++ [[D.v (.int .i64 ff), .v (.int .i64 ft), .ns .u8 fd]] = rows ++ (fl.take (k + 1)).map flD := by rw [take_snoc hfl, List.map_append, ← List.append_assoc]; rfl
      rw [hE] at m33
      exact ⟨fl.length - (k + 1), by omega, k + 1, _, _, _, _, by omega, rfl, ha36.only [0, 6, 7, 8], m33.only [1, 2, 3]⟩
    · skip
      clear ha5
      try simp only [decide_eq_true_eq, decide_eq_false_iff_not, Bool.not_eq_true, Bool.not_eq_false, Bool.not_eq_eq_eq_not, Bool.not_true, Bool.not_false, Bool.not_not, Int.not_lt, Int.not_le, ne_eq, Decidable.not_not] at hb6
      obtain rfl : k = fl.length := by omega
      refine wp_cond_false (ha6.ev (x := .tmp 9) rfl) ?_
      refine wp_exit ?_
      try dsimp only [Exit.then]
      try refine out_here ?_
      refine (ret0 (fn := Try.f8) ha6 rfl ?_)
      rw [List.take_length] at m4
      exact ⟨rfl, _, m4.outP (i := 1) (j := 2) (by decide) rfl rfl hB.lt⟩
end Go.Proofs.Ytnllgfmjcnjgdaa.K
