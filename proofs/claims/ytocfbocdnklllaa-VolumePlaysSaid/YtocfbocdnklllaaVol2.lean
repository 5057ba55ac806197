/- parts: copies of items, writes, volumes. -/
import Derived.Test.YtocfbocdnklllaaVol1
namespace Go.Proofs.Ytocfbocdnklllaa.K
open Go.ChangeShapes Go.WideShapes Go.ChangeAt Go.RowKit
set_option linter.unusedVariables false
set_option linter.unusedSimpArgs false

theorem inf5pb : (Try.prog.info? 5).map (fun i => (i.zero, i.size, i.bytes)) = some (some (.int .u8 0), 1, 1) := by kernel_rfl
theorem inf2p6 : (Try.prog.info? 2).map (fun i => (i.zero, i.size, i.bytes)) = some (some (.int .i64 0), 1, 8) := by kernel_rfl
theorem sz43it : (Try.prog.info? 43).map (·.size) = some 1 := by kernel_rfl
theorem sz67it : (Try.prog.info? 67).map (·.size) = some 2 := by kernel_rfl
theorem zc67it : ((Try.prog.info? 67).bind (·.zero)).map (·.cells.toList) = some [.int .i64 0, .slice none 0 0] := by kernel_rfl
theorem inf67li : (Try.prog.info? 67).map (fun i => (i.zero, i.size, i.bytes)) = some (some (.agg #[.int .i64 0, .slice none 0 0]), 2, 32) := by kernel_rfl
theorem sz67li : (Try.prog.info? 67).map (·.size) = some 2 := by kernel_rfl
theorem zc67li : ((Try.prog.info? 67).bind (·.zero)).map (·.cells.toList) = some [.int .i64 0, .slice none 0 0] := by kernel_rfl

theorem sz23wr : (Try.prog.info? 23).map (·.size) = some 1 := by kernel_rfl
theorem sz55wr : (Try.prog.info? 55).map (·.size) = some 2 := by kernel_rfl
theorem zc55wr : ((Try.prog.info? 55).bind (·.zero)).map (·.cells.toList) = some [.int .i64 0, .slice none 0 0] := by kernel_rfl
def itD (x : Int × List Int) : List D := [.v (.int .i64 x.1), .ns .u8 x.2]
def wrD (x : Int × List (Int × List Int)) : List D := [.v (.int .i64 x.1), .l 2 (x.2.map itD)]
theorem itD_get {A : List (Int × List Int)} {k : Nat} {b : Int} {d : List Int} (h : A[k]? = some (b, d)) : (A.map itD)[k]? = some [.v (.int .i64 b), .ns .u8 d] := by simp [h, itD]
theorem wrD_get {A : List (Int × List (Int × List Int))} {k : Nat} {b : Int} {d : List (Int × List Int)} (h : A[k]? = some (b, d)) : (A.map wrD)[k]? = some [.v (.int .i64 b), .l 2 (d.map itD)] := by simp [h, wrD]
def ItsOk (es : List (Int × List Int)) : Prop := ∀ e ∈ es, e.2.length ≤ 140737488351232
def WrsOk (ws : List (Int × List (Int × List Int))) : Prop := ∀ e ∈ ws, e.2.length ≤ 1000000 ∧ ItsOk e.2
theorem take_snoc {α : Type} {l : List α} {k : Nat} {x : α} (h : l[k]? = some x) : l.take (k + 1) = l.take k ++ [x] := by
 obtain ⟨hk, e⟩ := List.getElem?_eq_some_iff.1 h
 rw [List.take_succ_eq_append_getElem hk, e]
theorem rowNil {N : Nat} {S : Nat → Prop} {w : World} {v : Value} {e : TypeId} {k : Nat} (h : w.ownsRow N e k v 0 []) : RowOk N S w v e k [] := ⟨[], by simpa using h, rfl, by simp, by simp, by simp⟩
set_option maxRecDepth 100000
set_option maxHeartbeats 4000000
theorem growI_any_inf : (Try.prog.info? 67).map (fun i => (i.zero, i.size, i.bytes)) = some (some (.agg #[.int .i64 0, .slice none 0 0]), 2, 32) := by kernel_rfl
theorem growI_any (n : Nat) (w : World) (hn : n ≤ 100000000) :
   Calls Try.prog 96 #[.slice none 0 0, .int .i64 n] w fun e w' => ∃ p c, e = .returned (.slice p 0 c) ∧ w'.ownsRow w.heap.size 67 2 (.slice p 0 c) 0 [] ∧ Below w.heap.size w w' := by
 by_cases h0 : n = 0
 · subst h0
   go_enter Try.func96, Try.ntmps96
   go_wp2
   go_ret
   exact ⟨_, _, rfl, World.ownsRow_nil _ _ _ _, Below.refl _ _⟩
 · obtain ⟨i0, hi, hz0, hz1, hz2⟩ := info_parts growI_any_inf
   have hbn : n * i0.bytes ≤ 140737488355328 := by rw [hz2]; omega
   obtain ⟨z, hz⟩ : ∃ z : Value, (.agg #[.int .i64 0, .slice none 0 0]) = z := ⟨_, rfl⟩
   have hzc : z.cells.size = 2 := by rw [← hz]; rfl
   rw [hz] at hz0
   have hrz : ∀ ty, (Builtin.append_ #[23, 3] ty #[.slice none 0 0, .int .i64 (n : Int)]).run Try.prog w =
       .ok (.slice (some ⟨w.heap.size, 0, none⟩) n (grownCap w n 0 67)) (w.drew.alloc (.cells (#[] ++ Builtin.zeroCells z.cells n ++ Builtin.zeroCells z.cells (grownCap w n 0 67 - n)) 67)) := fun ty => by
     have h := Lib.run_append_grow_zeros w 23 3 ty 67 i0 z .i64 .i64 Try.underlying23 Try.underlying3 hi hz0 none 0 0 [] (run_firstCells_none w.drew i0.size 0 0 0) n (by omega) (by omega) (by omega) (by omega) (by omega)
       (by rw [Nat.zero_add]; exact growslice_fits (by omega) hbn)
     rw [Nat.zero_add] at h
     exact h
   have hG := grownCap_ge w n 0 67
   have hM := grownCap_le_maxLen w n 0 67 (by unfold maxLen; omega)
   generalize grownCap w n 0 67 = G at hrz hG hM
   have hown : (w.drew.alloc (.cells (#[] ++ Builtin.zeroCells z.cells n ++ Builtin.zeroCells z.cells (G - n)) 67)).ownsRow w.heap.size 67 2 (.slice (some ⟨w.heap.size, 0, none⟩) 0 G) 0 [] := by
     refine World.ownsRow_made w.drew _ G (Nat.le_refl _) hM ?_
     simp [size_zeroCells, hzc]
     omega
   have hbel : Below w.heap.size w (w.drew.alloc (.cells (#[] ++ Builtin.zeroCells z.cells n ++ Builtin.zeroCells z.cells (G - n)) 67)) := ((Below.refl _ w).drew).alloc (Nat.le_refl _) _
   generalize (w.drew.alloc (.cells (#[] ++ Builtin.zeroCells z.cells n ++ Builtin.zeroCells z.cells (G - n)) 67)) = W' at hrz hown hbel
   have HO := Lib.hid hown
   have HB := Lib.hid hbel
   clear hown hbel hi hz0 hz1 hz2 hz hzc
   unfold maxLen at hM
   go_enter Try.func96, Try.ntmps96
   go_wp2_with (at_builtin; refine Lib.wpList_append_run _ rfl _ _ _ _ rfl _ _ rfl rfl _ _ (hrz _) ?_)
   all_goals (go_ret; exact ⟨_, _, rfl, HO.out, HB.out⟩)
theorem growW_any_inf : (Try.prog.info? 55).map (fun i => (i.zero, i.size, i.bytes)) = some (some (.agg #[.int .i64 0, .slice none 0 0]), 2, 32) := by kernel_rfl
theorem growW_any (n : Nat) (w : World) (hn : n ≤ 100000000) :
   Calls Try.prog 74 #[.slice none 0 0, .int .i64 n] w fun e w' => ∃ p c, e = .returned (.slice p 0 c) ∧ w'.ownsRow w.heap.size 55 2 (.slice p 0 c) 0 [] ∧ Below w.heap.size w w' := by
 by_cases h0 : n = 0
 · subst h0
   go_enter Try.func74, Try.ntmps74
   go_wp2
   go_ret
   exact ⟨_, _, rfl, World.ownsRow_nil _ _ _ _, Below.refl _ _⟩
 · obtain ⟨i0, hi, hz0, hz1, hz2⟩ := info_parts growW_any_inf
   have hbn : n * i0.bytes ≤ 140737488355328 := by rw [hz2]; omega
   obtain ⟨z, hz⟩ : ∃ z : Value, (.agg #[.int .i64 0, .slice none 0 0]) = z := ⟨_, rfl⟩
   have hzc : z.cells.size = 2 := by rw [← hz]; rfl
   rw [hz] at hz0
   have hrz : ∀ ty, (Builtin.append_ #[32, 3] ty #[.slice none 0 0, .int .i64 (n : Int)]).run Try.prog w =
       .ok (.slice (some ⟨w.heap.size, 0, none⟩) n (grownCap w n 0 55)) (w.drew.alloc (.cells (#[] ++ Builtin.zeroCells z.cells n ++ Builtin.zeroCells z.cells (grownCap w n 0 55 - n)) 55)) := fun ty => by
     have h := Lib.run_append_grow_zeros w 32 3 ty 55 i0 z .i64 .i64 Try.underlying32 Try.underlying3 hi hz0 none 0 0 [] (run_firstCells_none w.drew i0.size 0 0 0) n (by omega) (by omega) (by omega) (by omega) (by omega)
       (by rw [Nat.zero_add]; exact growslice_fits (by omega) hbn)
     rw [Nat.zero_add] at h
     exact h
   have hG := grownCap_ge w n 0 55
   have hM := grownCap_le_maxLen w n 0 55 (by unfold maxLen; omega)
   generalize grownCap w n 0 55 = G at hrz hG hM
   have hown : (w.drew.alloc (.cells (#[] ++ Builtin.zeroCells z.cells n ++ Builtin.zeroCells z.cells (G - n)) 55)).ownsRow w.heap.size 55 2 (.slice (some ⟨w.heap.size, 0, none⟩) 0 G) 0 [] := by
     refine World.ownsRow_made w.drew _ G (Nat.le_refl _) hM ?_
     simp [size_zeroCells, hzc]
     omega
   have hbel : Below w.heap.size w (w.drew.alloc (.cells (#[] ++ Builtin.zeroCells z.cells n ++ Builtin.zeroCells z.cells (G - n)) 55)) := ((Below.refl _ w).drew).alloc (Nat.le_refl _) _
   generalize (w.drew.alloc (.cells (#[] ++ Builtin.zeroCells z.cells n ++ Builtin.zeroCells z.cells (G - n)) 55)) = W' at hrz hown hbel
   have HO := Lib.hid hown
   have HB := Lib.hid hbel
   clear hown hbel hi hz0 hz1 hz2 hz hzc
   unfold maxLen at hM
   go_enter Try.func74, Try.ntmps74
   go_wp2_with (at_builtin; refine Lib.wpList_append_run _ rfl _ _ _ _ rfl _ _ rfl rfl _ _ (hrz _) ?_)
   all_goals (go_ret; exact ⟨_, _, rfl, HO.out, HB.out⟩)
theorem plainB_any (d : List Int) (p0 : Option Addr) (c0 : Nat) (w0 : World) (h0 : Rd (fun _ => True) w0 (.slice p0 d.length c0) (.ns .u8 d)) (hd : d.length ≤ 140737488351232) :
   Calls Try.prog 52 #[.slice p0 d.length c0] w0 fun e w' => ∃ p c, e = .returned (.slice p d.length c) ∧ Rd (New w0) w' (.slice p d.length c) (.ns .u8 d) ∧ Below w0.heap.size w0 w' := by
 refine enter (fn := Try.f52) Try.func52 rfl Try.ntmps52 rfl (fun a0 ha0 => ?_)
 simp only [List.zipIdx_cons, List.zipIdx_nil, List.map_cons, List.map_nil, Nat.reduceAdd, Nat.zero_add] at ha0
 have m0 := MemOk.start (fun _ => False) w0
 refine wp_seq_k (fun K0 hK0 => ?_)
 refine wp_region_lit ?_
 refine st_y ha0 rfl (y_assign ha0 rfl) ?_
 clear ha0 a0; intro a1 ha1
 refine wpList_nil ?_
 refine hK0 _ _ ?_; clear hK0; try clear K0
 refine wp_seq_k (fun K1 hK1 => ?_)
 refine wp_region_lit ?_
 refine st_y ha1 rfl (y_move ha1 rfl) ?_
 clear ha1 a1; intro a2 ha2
 refine wpList_plain rfl (fun K hK => ?_)
 refine e_app0M ha2 m0 2 rfl rfl (h0.now' m0 rfl).ns_out.nums Try.underlying43 inf5pb (by decide) (by omega) rfl ?_
 clear ha2 a2 m0; intro p3 c3 a4 w4 ha4 m4
 refine hK _ _ ?_; clear hK K
 refine st_y ha4 rfl (y_assign ha4 rfl) ?_
 clear ha4 a4; intro a5 ha5
 refine wpList_nil ?_
 refine hK1 _ _ ?_; clear hK1; try clear K1
 refine wp_ret ?_
 try dsimp only [Exit.then, Exit.inBlock]
 refine (ret1 (fn := Try.f52) ha5 rfl rfl ?_)
 have m6 := m4.freezeN 2 rfl; clear m4
 exact ⟨_, _, rfl, m6.outF (i := 2) rfl, m6.below⟩
theorem plain64_any (d : List Int) (p0 : Option Addr) (c0 : Nat) (w0 : World) (h0 : Rd (fun _ => True) w0 (.slice p0 d.length c0) (.ns .i64 d)) (hd : d.length ≤ 1000000) :
   Calls Try.prog 56 #[.slice p0 d.length c0] w0 fun e w' => ∃ p c, e = .returned (.slice p d.length c) ∧ Rd (New w0) w' (.slice p d.length c) (.ns .i64 d) ∧ Below w0.heap.size w0 w' := by
 refine enter (fn := Try.f56) Try.func56 rfl Try.ntmps56 rfl (fun a0 ha0 => ?_)
 simp only [List.zipIdx_cons, List.zipIdx_nil, List.map_cons, List.map_nil, Nat.reduceAdd, Nat.zero_add] at ha0
 have m0 := MemOk.start (fun _ => False) w0
 refine wp_seq_k (fun K0 hK0 => ?_)
 refine wp_region_lit ?_
 refine st_y ha0 rfl (y_assign ha0 rfl) ?_
 clear ha0 a0; intro a1 ha1
 refine wpList_nil ?_
 refine hK0 _ _ ?_; clear hK0; try clear K0
 refine wp_seq_k (fun K1 hK1 => ?_)
 refine wp_region_lit ?_
 refine st_y ha1 rfl (y_move ha1 rfl) ?_
 clear ha1 a1; intro a2 ha2
 refine wpList_plain rfl (fun K hK => ?_)
 refine e_app0N ha2 m0 2 rfl rfl (h0.now' m0 rfl).ns_out.nums Try.underlying31 inf2p6 (by decide) (by omega) rfl ?_
 clear ha2 a2 m0; intro p3 c3 a4 w4 ha4 m4
 refine hK _ _ ?_; clear hK K
 refine st_y ha4 rfl (y_assign ha4 rfl) ?_
 clear ha4 a4; intro a5 ha5
 refine wpList_nil ?_
 refine hK1 _ _ ?_; clear hK1; try clear K1
 refine wp_ret ?_
 try dsimp only [Exit.then, Exit.inBlock]
 refine (ret1 (fn := Try.f56) ha5 rfl rfl ?_)
 have m6 := m4.freezeN 2 rfl; clear m4
 exact ⟨_, _, rfl, m6.outF (i := 2) rfl, m6.below⟩
theorem item_any (b : Int) (d : List Int) (p0 : Option Addr) (c0 : Nat) (w0 : World) (h0 : Rd (fun _ => True) w0 (.slice p0 d.length c0) (.ns .u8 d)) (hd : d.length ≤ 140737488351232) :
   Calls Try.prog 91 #[.agg #[.int .i64 b, .slice p0 d.length c0]] w0 fun e w' => ∃ p c, e = .returned (.agg #[.int .i64 b, .slice p d.length c]) ∧ Rd (New w0) w' (.slice p d.length c) (.ns .u8 d) ∧ Below w0.heap.size w0 w' := by
 refine enter (fn := Try.f91) Try.func91 rfl Try.ntmps91 rfl (fun a0 ha0 => ?_)
 simp only [List.zipIdx_cons, List.zipIdx_nil, List.map_cons, List.map_nil, Nat.reduceAdd, Nat.zero_add] at ha0
 have m0 := MemOk.start (fun _ => False) w0
 refine wp_seq_k (fun K0 hK0 => ?_)
 refine wp_region_lit ?_
 refine wpList_plain rfl (fun K hK => ?_)
 refine e_box ha0 m0 2 (cs := [_, _]) rfl rfl rfl ?_
 clear ha0 a0 m0; intro g1 a2 w2 ha2 m2 hB2 hg2
 clear hB2 hg2
 refine hK _ _ ?_; clear hK K
 refine wpList_plain rfl (fun K hK => ?_)
 refine e_alloc ha2 m2 3 zc67it rfl ?_
 clear ha2 a2 m2; intro g3 a4 w4 ha4 m4 hB4 hg4
 clear hB4 hg4
 refine hK _ _ ?_; clear hK K
 refine wpList_nil ?_
 refine hK0 _ _ ?_; clear hK0; try clear K0
 refine wp_seq_k (fun K1 hK1 => ?_)
 refine wp_region_lit ?_
 refine st_y ha4 rfl (y_fieldAddr ha4 (off := 1) rfl Try.underlying67 rfl (s := 0) (by kernel_rfl) rfl) ?_
 clear ha4 a4; intro a5 ha5
 refine st_y ha5 rfl (y_loadB1 ha5 m4 (i := 2) rfl rfl rfl Try.underlying43 rfl) ?_
 clear ha5 a5; intro a6 ha6
 refine wpList_plain rfl (fun K hK => ?_)
 refine e_call ha6 Try.func52 rfl rfl rfl rfl (plainB_any d _ _ _ ((h0.now' m4 rfl).any) hd) ?_
 rintro e w7 ⟨p7, c7, rfl, hd7, hb7⟩
 have m8 := m4.callF 4 rfl hb7 hd7
 clear m4
 clear hb7 hd7
 refine ⟨_, rfl, fun a9 ha9 => ?_⟩; clear ha6 a6
 refine hK _ _ ?_; clear hK K
 refine st_y ha9 rfl (y_fieldAddr ha9 (off := 1) rfl Try.underlying67 rfl (s := 0) (by kernel_rfl) rfl) ?_
 clear ha9 a9; intro a10 ha10
 refine wpList_plain rfl (fun K hK => ?_)
 refine e_store1 ha10 m8 2 rfl rfl rfl rfl rfl sz43it (by dsimp only [List.set] <;> rfl) ?_
 clear m8; intro w11 m11 hB11
 clear hB11
 refine hK _ _ ?_; clear hK K
 refine wpList_nil ?_
 refine hK1 _ _ ?_; clear hK1; try clear K1
 refine wp_seq_k (fun K2 hK2 => ?_)
 refine wp_region_lit ?_
 refine st_y ha10 rfl (y_loadBR ha10 m11 (i := 2) rfl rfl Try.underlying67 rfl sz67it (by simp) (by dsimp only [List.drop, List.take] <;> rfl)) ?_
 clear ha10 a10; intro a12 ha12
 refine wpList_plain rfl (fun K hK => ?_)
 refine e_storeW ha12 m11 3 rfl rfl rfl rfl rfl sz67it ?_
 clear m11; intro w13 m13 hB13
 clear hB13
 refine hK _ _ ?_; clear hK K
 refine wpList_nil ?_
 refine hK2 _ _ ?_; clear hK2; try clear K2
 refine wp_ret ?_
 try dsimp only [Exit.then, Exit.inBlock]
 refine (retC (fn := Try.f91) ha12 m13 (i := 3) rfl rfl rfl Try.underlying67 rfl sz67it ?_)
 exact ⟨_, _, rfl, m13.outF (i := 4) rfl, m13.below⟩
theorem listI_any (es : List (Int × List Int)) (p0 : Option Addr) (c0 nn : Nat) (w0 : World) (h0 : Rd (fun _ => True) w0 (.slice p0 nn c0) (.l 2 (es.map itD))) (hl : es.length ≤ 1000000) (hok : ItsOk es) :
   Calls Try.prog 90 #[.slice p0 nn c0, .func (.func 91) #[] #[]] w0 fun e w' => ∃ p c, e = .returned (.slice p (es.map itD).length c) ∧ Rd (New w0) w' (.slice p (es.map itD).length c) (.l 2 (es.map itD)) ∧ Below w0.heap.size w0 w' := by
 obtain rfl : nn = es.length := by obtain ⟨pq, cq, hv, _⟩ := h0.l_shape; injection hv with _ e2 _; rw [List.length_map] at e2; exact e2
 refine enter (fn := Try.f90) Try.func90 rfl Try.ntmps90 rfl (fun a0 ha0 => ?_)
 simp only [List.zipIdx_cons, List.zipIdx_nil, List.map_cons, List.map_nil, Nat.reduceAdd, Nat.zero_add] at ha0
 have m0 := MemOk.start (fun _ => False) w0
 refine wp_seq_k (fun K0 hK0 => ?_)
 refine wp_region_lit ?_
 refine st_y ha0 rfl (y_assign ha0 rfl) ?_
 clear ha0 a0; intro a1 ha1
 refine wpList_nil ?_
 refine hK0 _ _ ?_; clear hK0; try clear K0
 refine wp_seq_k (fun K1 hK1 => ?_)
 refine wp_region_lit ?_
 refine st_y ha1 rfl (y_move ha1 rfl) ?_
 clear ha1 a1; intro a2 ha2
 refine st_y ha2 rfl (y_len ha2 rfl Try.underlying23) ?_
 clear ha2 a2; intro a3 ha3
 refine wpList_plain rfl (fun K hK => ?_)
 refine e_call ha3 Try.func96 rfl rfl rfl rfl (growI_any _ _ (by omega)) ?_
 rintro e w4 ⟨p4, c4, rfl, ho4, hb4⟩
 have m5 := m0.newR 3 hb4 (rowNil ho4)
 clear m0
 clear hb4 ho4
 refine ⟨_, rfl, fun a6 ha6 => ?_⟩; clear ha3 a3
 refine hK _ _ ?_; clear hK K
 refine st_y ha6 rfl (y_assign ha6 rfl) ?_
 clear ha6 a6; intro a7 ha7
 refine wpList_nil ?_
 refine hK1 _ _ ?_; clear hK1; try clear K1
 refine wp_seq_k (fun K2 hK2 => ?_)
 refine wp_seq_k (fun K3 hK3 => ?_)
 refine wp_region_lit ?_
 refine st_y ha7 rfl (y_move ha7 rfl) ?_
 clear ha7 a7; intro a8 ha8
 refine st_y ha8 rfl (y_len ha8 rfl Try.underlying23) ?_
 clear ha8 a8; intro a9 ha9
 refine st_y ha9 rfl (y_move ha9 rfl) ?_
 clear ha9 a9; intro a10 ha10
 refine wpList_nil ?_
 refine hK3 _ _ ?_; clear hK3; try clear K3
 refine wp_block ?_
 refine wp_loop_ghost (fun g a w => ∃ (k : Nat) (p : Option Addr) (c : Nat), k ≤ es.length ∧ g = es.length - k ∧ Has 25 [(1, .func (.func 91) #[] #[]), (5, .slice p ((es.take k).map itD).length c), (11, .slice p0 es.length c0), (12, .int .i64 es.length), (13, .int .i64 k)] a ∧ MemOk (cn w0) w0 [(3, .row (.slice p ((es.take k).map itD).length c) 67 2 ((es.take k).map itD))] w) (es.length) ?_ ?_
 · exact ⟨0, _, _, Nat.zero_le _, rfl, ha10.only [1, 5, 11, 12, 13], m5.only [3]⟩
 ·
  clear ha10 m5
  rintro g a11 w11 ⟨k, p, c, hkl, hg, ha11, m11⟩
  refine wp_seq_k (fun K4 hK4 => ?_)
  refine wp_region_lit ?_
  refine st_y ha11 rfl (y_lss ha11 rfl rfl) ?_
  clear ha11 a11; intro a12 ha12
  refine wpList_nil ?_
  refine hK4 _ _ ?_; clear hK4; try clear K4
  refine wp_seq_k (fun K5 hK5 => ?_)
  refine bool_cases ha12 (t := 14) rfl (fun hb13 ha13 => ?_) (fun hb13 ha13 => ?_)
  ·
   clear ha12
   try simp only [Q1x, Q2x, Q3x, Q4x, Q5x, Q6x, Q7x, Q8x, Q9x, Q0x, Qax, Qbx] at hb13
   have hk : k < es.length := by omega
   obtain ⟨⟨xb, xd⟩, hes⟩ : ∃ e, es[k]? = some e := ⟨_, List.getElem?_eq_getElem hk⟩
   have hed := hok _ (List.mem_of_getElem? hes)
   dsimp only at hed
   refine wp_cond_true (ha13.ev (x := .tmp 14) rfl) ?_
   refine wp_skip ?_
   refine hK5 _ _ ?_; clear hK5; try clear K5
   refine wp_seq_k (fun K6 hK6 => ?_)
   refine wp_block ?_
   refine wp_seq_k (fun K7 hK7 => ?_)
   refine wp_region_lit ?_
   obtain ⟨gx14, ox14, vx14, hp14, hl14, hR14, hrg14⟩ := h0.extA (k) (r := [.v (.int .i64 xb), .ns .u8 xd]) (itD_get hes)
   cases hp14; clear hl14
   rcases hR14 with _ | ⟨hd14_0, _ | ⟨hd14_1, _ | _⟩⟩
   obtain rfl := hd14_0.v_out
   clear hd14_0
   obtain ⟨p15, c15, hv15, hw15⟩ := hd14_1.ns_shape; subst hv15
   refine st_y ha13 rfl (y_idx ha13 rfl rfl Try.underlying23 sz67li (k) rfl hk) ?_
   clear ha13 a12; intro a16 ha16
   refine st_y ha16 rfl (y_loadAt ha16 (hrg14 m11 rfl) rfl Try.underlying67 rfl sz67li) ?_
   clear ha16 a16; intro a17 ha17
   refine wpList_plain rfl (fun K hK => ?_)
   refine e_alloc ha17 m11 101 zc67li rfl ?_
   clear ha17 a17 m11; intro g18 a19 w19 ha19 m19 hB19 hg19
   clear hB19 hg19
   refine hK _ _ ?_; clear hK K
   refine wpList_plain rfl (fun K hK => ?_)
   refine e_storeW ha19 m19 101 rfl rfl rfl rfl rfl sz67li ?_
   clear m19; intro w20 m20 hB20
   clear hB20
   refine hK _ _ ?_; clear hK K
   refine wpList_nil ?_
   refine hK7 _ _ ?_; clear hK7; try clear K7
   refine wp_region_lit ?_
   refine st_y ha19 rfl (y_move ha19 rfl) ?_
   clear ha19 a19; intro a21 ha21
   refine st_y ha21 rfl (y_move ha21 rfl) ?_
   clear ha21 a21; intro a22 ha22
   refine st_y ha22 rfl (y_loadBR ha22 m20 (i := 101) rfl rfl Try.underlying67 rfl sz67li (by simp) (by dsimp only [List.drop, List.take] <;> rfl)) ?_
   clear ha22 a22; intro a23 ha23
   refine wpList_plain rfl (fun K hK => ?_)
   refine e_callV ha23 rfl Try.func91 rfl rfl rfl rfl (item_any xb xd _ _ _ ((hd14_1.now' m20 rfl).any) hed) ?_
   rintro e w24 ⟨p24, c24, rfl, hd24, hb24⟩
   have m25 := m20.callF 102 rfl hb24 hd24
   clear m20
   clear hb24 hd24
   refine ⟨_, rfl, fun a26 ha26 => ?_⟩; clear ha23 a23
   refine hK _ _ ?_; clear hK K
   refine wpList_plain rfl (fun K hK => ?_)
   refine e_litR ha26 m25 103 (mm := 2) rfl (.cons rfl rfl (.cons (.v _) (.cons (m25.rd (i := 102) rfl) .nil)) <| .nil) Try.underlying23 inf67li rfl rfl rfl rfl rfl ?_
   clear ha26 a26 m25; intro g27 a28 w28 ha28 m28
   refine hK _ _ ?_; clear hK K
   have m30 := m28.freezeR 103 rfl; clear m28
   refine wpList_plain rfl (fun K hK => ?_)
   refine e_appR ha28 m30 3 rfl rfl rfl (m30.rd (i := 103) rfl) Try.underlying23 inf67li rfl rfl (by decide) (by simp; omega) rfl ?_
   clear ha28 a28 m30; intro p29 c29 a31 w31 ha31 m31
   refine hK _ _ ?_; clear hK K
   refine st_y ha31 rfl (y_assign ha31 rfl) ?_
   clear ha31 a31; intro a32 ha32
   refine wpList_nil ?_
   refine hK6 _ _ ?_; clear hK6; try clear K6
   have ha33 : Has 25 [(1, _), (5, _), (11, _), (12, _), (13, _)] a32 := ha32.only [1, 5, 11, 12, 13]; clear ha32
   refine wp_region_lit ?_
   refine st_y ha33 rfl (y_add ha33 rfl rfl (r := ((k + 1 : Nat) : Int)) (by rw [IntWalk.i64_in _ (by omega)]; omega)) ?_
   clear ha33 a32; intro a34 ha34
   refine st_y ha34 rfl (y_move ha34 rfl) ?_
   clear ha34 a34; intro a35 ha35
   refine wpList_nil ?_
   show ∃ n', n' < _ ∧ _
   have hE : (es.take k).map itD ++ [[D.v (.int .i64 xb), .ns .u8 xd]] = (es.take (k + 1)).map itD := by rw [take_snoc hes, List.map_append]; rfl
   rw [hE] at m31 ha35
   exact ⟨es.length - (k + 1), by omega, k + 1, _, _, by omega, rfl, ha35.only [1, 5, 11, 12, 13], m31.only [3]⟩
  ·
   clear ha12
   try simp only [Q1x, Q2x, Q3x, Q4x, Q5x, Q6x, Q7x, Q8x, Q9x, Q0x, Qax, Qbx] at hb13
   obtain rfl : k = es.length := by omega
   refine wp_cond_false (ha13.ev (x := .tmp 14) rfl) ?_
   refine wp_exit ?_
   refine hK2 _ _ ?_; clear hK2; try clear K2
   refine wp_seq_k (fun K8 hK8 => ?_)
   refine wp_region_lit ?_
   refine st_y ha13 rfl (y_move ha13 rfl) ?_
   clear ha13 a12; intro a36 ha36
   refine st_y ha36 rfl (y_assign ha36 rfl) ?_
   clear ha36 a36; intro a37 ha37
   refine wpList_nil ?_
   refine hK8 _ _ ?_; clear hK8; try clear K8
   refine wp_ret ?_
   try dsimp only [Exit.then, Exit.inBlock]
   refine (ret1 (fn := Try.f90) ha37 rfl rfl ?_)
   rw [List.take_length] at *
   have m38 := m11.freezeR 3 rfl; clear m11
   exact ⟨_, _, rfl, m38.outF (i := 3) rfl, m38.below⟩
theorem items_any (es : List (Int × List Int)) (p0 : Option Addr) (c0 nn : Nat) (w0 : World) (h0 : Rd (fun _ => True) w0 (.slice p0 nn c0) (.l 2 (es.map itD))) (hl : es.length ≤ 1000000) (hok : ItsOk es) :
   Calls Try.prog 75 #[.slice p0 nn c0] w0 fun e w' => ∃ p c, e = .returned (.slice p (es.map itD).length c) ∧ Rd (New w0) w' (.slice p (es.map itD).length c) (.l 2 (es.map itD)) ∧ Below w0.heap.size w0 w' := by
 refine enter (fn := Try.f75) Try.func75 rfl Try.ntmps75 rfl (fun a0 ha0 => ?_)
 simp only [List.zipIdx_cons, List.zipIdx_nil, List.map_cons, List.map_nil, Nat.reduceAdd, Nat.zero_add] at ha0
 have m0 := MemOk.start (fun _ => False) w0
 refine wp_seq_k (fun K0 hK0 => ?_)
 refine wp_region_lit ?_
 refine st_y ha0 rfl (y_assign ha0 rfl) ?_
 clear ha0 a0; intro a1 ha1
 refine wpList_nil ?_
 refine hK0 _ _ ?_; clear hK0; try clear K0
 refine wp_seq_k (fun K1 hK1 => ?_)
 refine wp_region_lit ?_
 refine st_y ha1 rfl (y_move ha1 rfl) ?_
 clear ha1 a1; intro a2 ha2
 refine wpList_plain rfl (fun K hK => ?_)
 refine e_call ha2 Try.func90 rfl rfl rfl rfl (listI_any es _ _ _ _ ((h0.now' m0 rfl).any) hl hok) ?_
 rintro e w3 ⟨p3, c3, rfl, hd3, hb3⟩
 have m4 := m0.callF 3 rfl hb3 hd3
 clear m0
 clear hb3 hd3
 refine ⟨_, rfl, fun a5 ha5 => ?_⟩; clear ha2 a2
 refine hK _ _ ?_; clear hK K
 refine st_y ha5 rfl (y_assign ha5 rfl) ?_
 clear ha5 a5; intro a6 ha6
 refine wpList_nil ?_
 refine hK1 _ _ ?_; clear hK1; try clear K1
 refine wp_ret ?_
 try dsimp only [Exit.then, Exit.inBlock]
 refine (ret1 (fn := Try.f75) ha6 rfl rfl ?_)
 exact ⟨_, _, rfl, m4.outF (i := 3) rfl, m4.below⟩
theorem write_any (sq : Int) (es : List (Int × List Int)) (p0 : Option Addr) (c0 nn : Nat) (w0 : World) (h0 : Rd (fun _ => True) w0 (.slice p0 nn c0) (.l 2 (es.map itD))) (hl : es.length ≤ 1000000) (hok : ItsOk es) :
   Calls Try.prog 58 #[.agg #[.int .i64 sq, .slice p0 nn c0]] w0 fun e w' => ∃ p c, e = .returned (.agg #[.int .i64 sq, .slice p (es.map itD).length c]) ∧ Rd (New w0) w' (.slice p (es.map itD).length c) (.l 2 (es.map itD)) ∧ Below w0.heap.size w0 w' := by
 refine enter (fn := Try.f58) Try.func58 rfl Try.ntmps58 rfl (fun a0 ha0 => ?_)
 simp only [List.zipIdx_cons, List.zipIdx_nil, List.map_cons, List.map_nil, Nat.reduceAdd, Nat.zero_add] at ha0
 have m0 := MemOk.start (fun _ => False) w0
 refine wp_seq_k (fun K0 hK0 => ?_)
 refine wp_region_lit ?_
 refine wpList_plain rfl (fun K hK => ?_)
 refine e_box ha0 m0 3 (cs := [_, _]) rfl rfl rfl ?_
 clear ha0 a0 m0; intro g1 a2 w2 ha2 m2 hB2 hg2
 clear hB2 hg2
 refine hK _ _ ?_; clear hK K
 refine wpList_plain rfl (fun K hK => ?_)
 refine e_alloc ha2 m2 4 zc55wr rfl ?_
 clear ha2 a2 m2; intro g3 a4 w4 ha4 m4 hB4 hg4
 clear hB4 hg4
 refine hK _ _ ?_; clear hK K
 refine wpList_nil ?_
 refine hK0 _ _ ?_; clear hK0; try clear K0
 refine wp_seq_k (fun K1 hK1 => ?_)
 refine wp_region_lit ?_
 refine st_y ha4 rfl (y_fieldAddr ha4 (off := 1) rfl Try.underlying55 rfl (s := 0) (by kernel_rfl) rfl) ?_
 clear ha4 a4; intro a5 ha5
 refine st_y ha5 rfl (y_loadB1 ha5 m4 (i := 3) rfl rfl rfl Try.underlying23 rfl) ?_
 clear ha5 a5; intro a6 ha6
 refine wpList_plain rfl (fun K hK => ?_)
 refine e_call ha6 Try.func75 rfl rfl rfl rfl (items_any es _ _ _ _ ((h0.now' m4 rfl).any) hl hok) ?_
 rintro e w7 ⟨p7, c7, rfl, hd7, hb7⟩
 have m8 := m4.callF 5 rfl hb7 hd7
 clear m4
 clear hb7 hd7
 refine ⟨_, rfl, fun a9 ha9 => ?_⟩; clear ha6 a6
 refine hK _ _ ?_; clear hK K
 refine st_y ha9 rfl (y_fieldAddr ha9 (off := 1) rfl Try.underlying55 rfl (s := 0) (by kernel_rfl) rfl) ?_
 clear ha9 a9; intro a10 ha10
 refine wpList_plain rfl (fun K hK => ?_)
 refine e_store1 ha10 m8 3 rfl rfl rfl rfl rfl sz23wr (by dsimp only [List.set] <;> rfl) ?_
 clear m8; intro w11 m11 hB11
 clear hB11
 refine hK _ _ ?_; clear hK K
 refine wpList_nil ?_
 refine hK1 _ _ ?_; clear hK1; try clear K1
 refine wp_seq_k (fun K2 hK2 => ?_)
 refine wp_region_lit ?_
 refine st_y ha10 rfl (y_loadBR ha10 m11 (i := 3) rfl rfl Try.underlying55 rfl sz55wr (by simp) (by dsimp only [List.drop, List.take] <;> rfl)) ?_
 clear ha10 a10; intro a12 ha12
 refine wpList_plain rfl (fun K hK => ?_)
 refine e_storeW ha12 m11 4 rfl rfl rfl rfl rfl sz55wr ?_
 clear m11; intro w13 m13 hB13
 clear hB13
 refine hK _ _ ?_; clear hK K
 refine wpList_nil ?_
 refine hK2 _ _ ?_; clear hK2; try clear K2
 refine wp_ret ?_
 try dsimp only [Exit.then, Exit.inBlock]
 refine (retC (fn := Try.f58) ha12 m13 (i := 4) rfl rfl rfl Try.underlying55 rfl sz55wr ?_)
 exact ⟨_, _, rfl, m13.outF (i := 5) rfl, m13.below⟩
end Go.Proofs.Ytocfbocdnklllaa.K
