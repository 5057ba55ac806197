/- General laws of walks. -/
import Derived.Test.YtndnnlbdnjndiaaGreatG5
import Derived.Lib.AppendZerosOnto
namespace Go.Proofs.YtndnnlbdnjndiaaGreat.K
open Go.ChangeShapes Go.WideShapes Go.ChangeAt Go.RowKit
set_option linter.unusedVariables false
set_option linter.unusedSimpArgs false
section
theorem inf5pb : (Tryz.prog.info? 5).map (fun i => (i.zero, i.size, i.bytes)) = some (some (.int .u8 0), 1, 1) := by kernel_rfl
theorem inf3pi : (Tryz.prog.info? 3).map (fun i => (i.zero, i.size, i.bytes)) = some (some (.int .i64 0), 1, 8) := by kernel_rfl
theorem inf62pe : (Tryz.prog.info? 62).map (fun i => (i.zero, i.size, i.bytes)) = some (some (.agg #[.int .i64 0, .int .i64 0, .int .i64 0, .slice none 0 0]), 4, 48) := by kernel_rfl
theorem sz27en : (Tryz.prog.info? 27).map (·.size) = some 1 := by kernel_rfl
theorem sz62en : (Tryz.prog.info? 62).map (·.size) = some 4 := by kernel_rfl
theorem zc62en : ((Tryz.prog.info? 62).bind (·.zero)).map (·.cells.toList) = some [.int .i64 0, .int .i64 0, .int .i64 0, .slice none 0 0] := by kernel_rfl
theorem sz26ba : (Tryz.prog.info? 26).map (·.size) = some 1 := by kernel_rfl
theorem sz27ba : (Tryz.prog.info? 27).map (·.size) = some 1 := by kernel_rfl
theorem sz29ba : (Tryz.prog.info? 29).map (·.size) = some 4 := by kernel_rfl
theorem zc29ba : ((Tryz.prog.info? 29).bind (·.zero)).map (·.cells.toList) = some [.int .i64 0, .int .i64 0, .slice none 0 0, .slice none 0 0] := by kernel_rfl
theorem inf62li : (Tryz.prog.info? 62).map (fun i => (i.zero, i.size, i.bytes)) = some (some (.agg #[.int .i64 0, .int .i64 0, .int .i64 0, .slice none 0 0]), 4, 48) := by kernel_rfl
theorem sz62li : (Tryz.prog.info? 62).map (·.size) = some 4 := by kernel_rfl
theorem zc62li : ((Tryz.prog.info? 62).bind (·.zero)).map (·.cells.toList) = some [.int .i64 0, .int .i64 0, .int .i64 0, .slice none 0 0] := by kernel_rfl
theorem sz62ru : (Tryz.prog.info? 62).map (·.size) = some 4 := by kernel_rfl
theorem zc62ru : ((Tryz.prog.info? 62).bind (·.zero)).map (·.cells.toList) = some [.int .i64 0, .int .i64 0, .int .i64 0, .slice none 0 0] := by kernel_rfl

def entD (e : Int × Int × Int × List Int) : List D := [.v (.int .i64 e.1), .v (.int .i64 e.2.1), .v (.int .i64 e.2.2.1), .ns .u8 e.2.2.2]
abbrev e0 : Int × Int × Int × List Int := (0, 0, 0, [])
theorem ent_get {A : List (Int × Int × Int × List Int)} {k : Nat} {i t q : Int} {d : List Int} (h : A[k]? = some (i, t, q, d)) : (A.map entD)[k]? = some [.v (.int .i64 i), .v (.int .i64 t), .v (.int .i64 q), .ns .u8 d] := by simp [h, entD]
def EntsOk (es : List (Int × Int × Int × List Int)) : Prop := ∀ e ∈ es, e.2.2.2.length ≤ 140737488351232
theorem take_snoc {α : Type} {l : List α} {k : Nat} {x : α} (h : l[k]? = some x) : l.take (k + 1) = l.take k ++ [x] := by
 obtain ⟨hk, e⟩ := List.getElem?_eq_some_iff.1 h
 rw [List.take_succ_eq_append_getElem hk, e]
theorem run_snoc {es : List (Int × Int × Int × List Int)} {pv : Int} {k : Nat} {ei et ek : Int} {ed : List Int} (h : ∀ j, j < k → (es.getD j e0).1 = pv + 1 + j) (hes : es[k]? = some (ei, et, ek, ed)) (he : ei = pv + 1 + k) : ∀ j, j < k + 1 → (es.getD j e0).1 = pv + 1 + j := by
 intro j hj
 rcases Nat.lt_or_ge j k with h1 | h1
 · exact h j h1
 · obtain rfl : j = k := by omega
   rw [List.getD, hes]; exact he
theorem run_stop {es : List (Int × Int × Int × List Int)} {pv : Int} {k : Nat} {ei et ek : Int} {ed : List Int} (hes : es[k]? = some (ei, et, ek, ed)) (he : ¬ ei = pv + 1 + k) : ¬ (es.getD k e0).1 = pv + 1 + k := by rw [List.getD, hes]; exact he
theorem rowNil {N : Nat} {S : Nat → Prop} {w : World} {v : Value} {e : TypeId} {k : Nat} (h : w.ownsRow N e k v 0 []) : RowOk N S w v e k [] := ⟨[], by simpa using h, rfl, by simp, by simp, by simp⟩
set_option maxRecDepth 100000
set_option maxHeartbeats 4000000
theorem infoE : (Tryz.prog.info? 62).map (fun i => (i.zero, i.size, i.bytes)) = some (some (.agg #[.int .i64 0, .int .i64 0, .int .i64 0, .slice none 0 0]), 4, 48) := by kernel_rfl
theorem growE_any (n : Nat) (w : World) (hn : n ≤ 100000000) :
   Calls Tryz.prog 148 #[.slice none 0 0, .int .i64 n] w fun e w' => ∃ p c, e = .returned (.slice p 0 c) ∧ w'.ownsRow w.heap.size 62 4 (.slice p 0 c) 0 [] ∧ Below w.heap.size w w' := by
 by_cases h0 : n = 0
 · subst h0
   go_enter Tryz.func148, Tryz.ntmps148
   go_wp2
   go_ret
   exact ⟨_, _, rfl, World.ownsRow_nil _ _ _ _, Below.refl _ _⟩
 · obtain ⟨i0, hi, hz0, hz1, hz2⟩ := info_parts infoE
   have hbn : n * i0.bytes ≤ 140737488355328 := by rw [hz2]; omega
   obtain ⟨z, hz⟩ : ∃ z : Value, (.agg #[.int .i64 0, .int .i64 0, .int .i64 0, .slice none 0 0]) = z := ⟨_, rfl⟩
   have hzc : z.cells.size = 4 := by rw [← hz]; rfl
   rw [hz] at hz0
   have hrz : ∀ ty, (Builtin.append_ #[30, 3] ty #[.slice none 0 0, .int .i64 (n : Int)]).run Tryz.prog w =
       .ok (.slice (some ⟨w.heap.size, 0, none⟩) n (grownCap w n 0 62)) (w.drew.alloc (.cells (#[] ++ Builtin.zeroCells z.cells n ++ Builtin.zeroCells z.cells (grownCap w n 0 62 - n)) 62)) := fun ty => by
     have h := Lib.run_append_grow_zeros w 30 3 ty 62 i0 z .i64 .i64 Tryz.underlying30 Tryz.underlying3 hi hz0 none 0 0 [] (run_firstCells_none w.drew i0.size 0 0 0) n (by omega) (by omega) (by omega) (by omega) (by omega)
       (by rw [Nat.zero_add]; exact growslice_fits (by omega) hbn)
     rw [Nat.zero_add] at h
     exact h
   have hG := grownCap_ge w n 0 62
   have hM := grownCap_le_maxLen w n 0 62 (by unfold maxLen; omega)
   generalize grownCap w n 0 62 = G at hrz hG hM
   have hown : (w.drew.alloc (.cells (#[] ++ Builtin.zeroCells z.cells n ++ Builtin.zeroCells z.cells (G - n)) 62)).ownsRow w.heap.size 62 4 (.slice (some ⟨w.heap.size, 0, none⟩) 0 G) 0 [] := by
     refine World.ownsRow_made w.drew _ G (Nat.le_refl _) hM ?_
     simp [size_zeroCells, hzc]
     omega
   have hbel : Below w.heap.size w (w.drew.alloc (.cells (#[] ++ Builtin.zeroCells z.cells n ++ Builtin.zeroCells z.cells (G - n)) 62)) := ((Below.refl _ w).drew).alloc (Nat.le_refl _) _
   generalize (w.drew.alloc (.cells (#[] ++ Builtin.zeroCells z.cells n ++ Builtin.zeroCells z.cells (G - n)) 62)) = W' at hrz hown hbel
   have HO := Lib.hid hown
   have HB := Lib.hid hbel
   clear hown hbel hi hz0 hz1 hz2 hz hzc
   unfold maxLen at hM
   go_enter Tryz.func148, Tryz.ntmps148
   go_wp2_with (at_builtin; refine Lib.wpList_append_run _ rfl _ _ _ _ rfl _ _ rfl rfl _ _ (hrz _) ?_)
   all_goals (go_ret; exact ⟨_, _, rfl, HO.out, HB.out⟩)
theorem plainB_any (d : List Int) (p0 : Option Addr) (c0 : Nat) (w0 : World) (h0 : Rd (fun _ => True) w0 (.slice p0 d.length c0) (.ns .u8 d)) (hd : d.length ≤ 140737488351232) :
   Calls Tryz.prog 120 #[.slice p0 d.length c0] w0 fun e w' => ∃ p c, e = .returned (.slice p d.length c) ∧ Rd (New w0) w' (.slice p d.length c) (.ns .u8 d) ∧ Below w0.heap.size w0 w' := by
 refine enter (fn := Tryz.f120) Tryz.func120 rfl Tryz.ntmps120 rfl (fun Az Hz => ?_)
 simp only [List.zipIdx_cons, List.zipIdx_nil, List.map_cons, List.map_nil, Nat.reduceAdd, Nat.zero_add] at Hz
 have m0 := MemOk.start (fun _ => False) w0
 refine regS Hz (.assign rfl <| .nil) ?_
 clear Hz Az; intro Az Hz
 refine wp_seq_k (fun K0 hK0 => ?_)
 refine wp_region_lit ?_
 refine goCh Hz (.move rfl .nil) ?_
 clear Hz Az; intro Az Hz
 refine wpList_plain rfl (fun K hK => ?_)
 refine e_app0M Hz m0 2 rfl rfl (h0.now' m0 rfl).ns_out.nums Tryz.underlying27 inf5pb (by decide) (by omega) rfl ?_
 clear Hz Az m0; intro p4 c4 Az w5 Hz m5
 refine hK _ _ ?_; clear hK K
 refine goCh Hz (.assign rfl .nil) ?_
 clear Hz Az; intro Az Hz
 refine wpList_nil ?_
 refine hK0 _ _ ?_; clear hK0; try clear K0
 refine wp_ret ?_
 try dsimp only [Exit.then, Exit.inBlock]
 refine (ret1 (fn := Tryz.f120) Hz rfl rfl ?_)
 have m7 := m5.freezeN 2 rfl; clear m5
 exact ⟨_, _, rfl, m7.outF (i := 2) rfl, m7.below⟩
theorem plainI_any (d : List Int) (p0 : Option Addr) (c0 : Nat) (w0 : World) (h0 : Rd (fun _ => True) w0 (.slice p0 d.length c0) (.ns .i64 d)) (hd : d.length ≤ 1000000) :
   Calls Tryz.prog 41 #[.slice p0 d.length c0] w0 fun e w' => ∃ p c, e = .returned (.slice p d.length c) ∧ Rd (New w0) w' (.slice p d.length c) (.ns .i64 d) ∧ Below w0.heap.size w0 w' := by
 refine enter (fn := Tryz.f41) Tryz.func41 rfl Tryz.ntmps41 rfl (fun Az Hz => ?_)
 simp only [List.zipIdx_cons, List.zipIdx_nil, List.map_cons, List.map_nil, Nat.reduceAdd, Nat.zero_add] at Hz
 have m0 := MemOk.start (fun _ => False) w0
 refine regS Hz (.assign rfl <| .nil) ?_
 clear Hz Az; intro Az Hz
 refine wp_seq_k (fun K0 hK0 => ?_)
 refine wp_region_lit ?_
 refine goCh Hz (.move rfl .nil) ?_
 clear Hz Az; intro Az Hz
 refine wpList_plain rfl (fun K hK => ?_)
 refine e_app0N Hz m0 2 rfl rfl (h0.now' m0 rfl).ns_out.nums Tryz.underlying26 inf3pi (by decide) (by omega) rfl ?_
 clear Hz Az m0; intro p4 c4 Az w5 Hz m5
 refine hK _ _ ?_; clear hK K
 refine goCh Hz (.assign rfl .nil) ?_
 clear Hz Az; intro Az Hz
 refine wpList_nil ?_
 refine hK0 _ _ ?_; clear hK0; try clear K0
 refine wp_ret ?_
 try dsimp only [Exit.then, Exit.inBlock]
 refine (ret1 (fn := Tryz.f41) Hz rfl rfl ?_)
 have m7 := m5.freezeN 2 rfl; clear m5
 exact ⟨_, _, rfl, m7.outF (i := 2) rfl, m7.below⟩
theorem plainE_fr (X : Cx) (rows : List (List D)) (v0 : Value) (w0 : World) (hn : rows.length ≤ 1000000) (m0 : MemOk X w0 [(1, .seg v0 62 4 rows)] w0) :
   Calls Tryz.prog 121 #[v0] w0 fun e w' => ∃ p c, e = .returned (.slice p rows.length c) ∧ MemOk X w0 [(1, .seg v0 62 4 rows), (2, .seg (.slice p rows.length c) 62 4 rows)] w' := by
 refine enter (fn := Tryz.f121) Tryz.func121 rfl Tryz.ntmps121 rfl (fun Az Hz => ?_)
 simp only [List.zipIdx_cons, List.zipIdx_nil, List.map_cons, List.map_nil, Nat.reduceAdd, Nat.zero_add] at Hz
 refine regS Hz (.assign rfl <| .nil) ?_
 clear Hz Az; intro Az Hz
 refine wp_seq_k (fun K0 hK0 => ?_)
 refine wp_region_lit ?_
 refine goCh Hz (.move rfl .nil) ?_
 clear Hz Az; intro Az Hz
 have m4 := m0.nilS 2 62 4; clear m0
 refine wpList_plain rfl (fun K hK => ?_)
 refine e_appSA Hz m4 2 rfl rfl rfl (m4.srcS (i := 1) rfl) Tryz.underlying30 inf62pe rfl rfl (by decide) (by simp; omega) rfl ?_
 clear Hz Az m4; intro p5 c5 Az w6 Hz m6
 refine hK _ _ ?_; clear hK K
 refine goCh Hz (.assign rfl .nil) ?_
 clear Hz Az; intro Az Hz
 refine wpList_nil ?_
 refine hK0 _ _ ?_; clear hK0; try clear K0
 refine wp_ret ?_
 try dsimp only [Exit.then, Exit.inBlock]
 refine (ret1 (fn := Tryz.f121) Hz rfl rfl ?_)
 rw [List.nil_append] at m6
 exact ⟨_, _, rfl, m6.ren [(1, 1), (2, 2)] (by decide)⟩
theorem entry_any (ei et ek : Int) (d : List Int) (p0 : Option Addr) (c0 : Nat) (w0 : World) (h0 : Rd (fun _ => True) w0 (.slice p0 d.length c0) (.ns .u8 d)) (hd : d.length ≤ 140737488351232) :
   Calls Tryz.prog 119 #[.agg #[.int .i64 ei, .int .i64 et, .int .i64 ek, .slice p0 d.length c0]] w0 fun e w' => ∃ p c, e = .returned (.agg #[.int .i64 ei, .int .i64 et, .int .i64 ek, .slice p d.length c]) ∧ Rd (New w0) w' (.slice p d.length c) (.ns .u8 d) ∧ Below w0.heap.size w0 w' := by
 refine enter (fn := Tryz.f119) Tryz.func119 rfl Tryz.ntmps119 rfl (fun Az Hz => ?_)
 simp only [List.zipIdx_cons, List.zipIdx_nil, List.map_cons, List.map_nil, Nat.reduceAdd, Nat.zero_add] at Hz
 have m0 := MemOk.start (fun _ => False) w0
 refine wp_seq_k (fun K0 hK0 => ?_)
 refine wp_region_lit ?_
 refine wpList_plain rfl (fun K hK => ?_)
 refine e_box Hz m0 2 (cs := [_, _, _, _]) rfl rfl rfl ?_
 clear Hz Az m0; intro g1 Az w2 Hz m2 hB2 hg2
 clear hB2 hg2
 refine hK _ _ ?_; clear hK K
 refine wpList_plain rfl (fun K hK => ?_)
 refine e_alloc Hz m2 3 zc62en rfl ?_
 clear Hz Az m2; intro g3 Az w4 Hz m4 hB4 hg4
 clear hB4 hg4
 refine hK _ _ ?_; clear hK K
 refine wpList_nil ?_
 refine hK0 _ _ ?_; clear hK0; try clear K0
 refine wp_seq_k (fun K1 hK1 => ?_)
 refine wp_region_lit ?_
 refine goCh Hz (.fieldAddr (off := 3) rfl Tryz.underlying62 rfl (s := 0) (by kernel_rfl) rfl <| .loadB1 m4 (i := 2) rfl rfl rfl Tryz.underlying27 rfl <| .nil) ?_
 clear Hz Az; intro Az Hz
 refine wpList_plain rfl (fun K hK => ?_)
 refine e_call Hz Tryz.func120 rfl rfl rfl rfl (plainB_any d _ _ _ ((h0.now' m4 rfl).any) hd) ?_
 rintro e w9 ⟨p9, c9, rfl, hd9, hb9⟩
 have m10 := m4.callF 4 rfl hb9 hd9
 clear m4
 clear hb9 hd9
 refine ⟨_, rfl, ?_⟩; clear Hz Az; intro Az Hz
 refine hK _ _ ?_; clear hK K
 refine goCh Hz (.fieldAddr (off := 3) rfl Tryz.underlying62 rfl (s := 0) (by kernel_rfl) rfl .nil) ?_
 clear Hz Az; intro Az Hz
 refine wpList_plain rfl (fun K hK => ?_)
 refine e_store1 Hz m10 2 rfl rfl rfl rfl rfl sz27en (by dsimp only [List.set] <;> rfl) ?_
 clear m10; intro w13 m13 hB13
 clear hB13
 refine hK _ _ ?_; clear hK K
 refine wpList_nil ?_
 refine hK1 _ _ ?_; clear hK1; try clear K1
 refine wp_seq_k (fun K2 hK2 => ?_)
 refine wp_region_lit ?_
 refine goCh Hz (.loadBR m13 (i := 2) rfl rfl Tryz.underlying62 rfl sz62en (by simp) (by dsimp only [List.drop, List.take] <;> rfl) .nil) ?_
 clear Hz Az; intro Az Hz
 refine wpList_plain rfl (fun K hK => ?_)
 refine e_storeW Hz m13 3 rfl rfl rfl rfl rfl sz62en ?_
 clear m13; intro w16 m16 hB16
 clear hB16
 refine hK _ _ ?_; clear hK K
 refine wpList_nil ?_
 refine hK2 _ _ ?_; clear hK2; try clear K2
 refine wp_ret ?_
 try dsimp only [Exit.then, Exit.inBlock]
 refine (retC (fn := Tryz.f119) Hz m16 (i := 3) rfl rfl rfl Tryz.underlying62 rfl sz62en ?_)
 exact ⟨_, _, rfl, m16.outF (i := 4) rfl, m16.below⟩
theorem base_any (bi bt : Int) (cf d : List Int) (pc p0 : Option Addr) (cc c0 : Nat) (w0 : World) (hc : Rd (fun _ => True) w0 (.slice pc cf.length cc) (.ns .i64 cf)) (h0 : Rd (fun _ => True) w0 (.slice p0 d.length c0) (.ns .u8 d)) (hcf : cf.length ≤ 1000000) (hd : d.length ≤ 140737488351232) :
   Calls Tryz.prog 81 #[.agg #[.int .i64 bi, .int .i64 bt, .slice pc cf.length cc, .slice p0 d.length c0]] w0 fun e w' => ∃ p c q b, e = .returned (.agg #[.int .i64 bi, .int .i64 bt, .slice p cf.length c, .slice q d.length b]) ∧ Rd (New w0) w' (.slice p cf.length c) (.ns .i64 cf) ∧ Rd (New w0) w' (.slice q d.length b) (.ns .u8 d) ∧ Below w0.heap.size w0 w' := by
 refine enter (fn := Tryz.f81) Tryz.func81 rfl Tryz.ntmps81 rfl (fun Az Hz => ?_)
 simp only [List.zipIdx_cons, List.zipIdx_nil, List.map_cons, List.map_nil, Nat.reduceAdd, Nat.zero_add] at Hz
 have m0 := MemOk.start (fun _ => False) w0
 refine wp_seq_k (fun K0 hK0 => ?_)
 refine wp_region_lit ?_
 refine wpList_plain rfl (fun K hK => ?_)
 refine e_box Hz m0 3 (cs := [_, _, _, _]) rfl rfl rfl ?_
 clear Hz Az m0; intro g1 Az w2 Hz m2 hB2 hg2
 clear hB2 hg2
 refine hK _ _ ?_; clear hK K
 refine wpList_plain rfl (fun K hK => ?_)
 refine e_alloc Hz m2 4 zc29ba rfl ?_
 clear Hz Az m2; intro g3 Az w4 Hz m4 hB4 hg4
 clear hB4 hg4
 refine hK _ _ ?_; clear hK K
 refine wpList_nil ?_
 refine hK0 _ _ ?_; clear hK0; try clear K0
 refine wp_seq_k (fun K1 hK1 => ?_)
 have m5 : MemOk _ _ [(3, _), (4, _)] _ := m4.only [3, 4]; clear m4
 refine region_p 7 (B := [(3, _), (4, _)]) (m5.to ⟨il, il, trivial⟩) m5 (by kernel_rfl) (fun w6 hP6 m6 => ?_); clear m5
 refine goR hP6 [0, 1, 3, 4] [1, 4] 4 0 27 Hz (m6.to ⟨il, il, trivial⟩) (.fieldAddr (off := 2) rfl Tryz.underlying29 rfl (s := 0) (by kernel_rfl) rfl <| .loadB1 hh (i := 3) rfl rfl rfl Tryz.underlying26 rfl <| .fieldAddr (off := 3) rfl Tryz.underlying29 rfl (s := 0) (by kernel_rfl) rfl <| .loadB1 hh (i := 3) rfl rfl rfl Tryz.underlying27 rfl <| .nil) ?_
 clear Hz Az; intro Az Hz
 refine stepE_only 2 rfl (by kernel_rfl) rfl (fun K hK => ?_)
 refine e_call Hz Tryz.func41 rfl rfl rfl rfl (plainI_any cf _ _ _ ((hc.now' m6 rfl).any) hcf) ?_
 rintro e w11 ⟨p11, c11, rfl, hd11, hb11⟩
 have m12 := m6.callF 5 rfl hb11 hd11
 clear m6
 clear hb11 hd11
 refine ⟨_, rfl, ?_⟩; clear Hz Az; intro Az Hz
 refine hK _ _ (m12.to ⟨il, il, trivial⟩) ?_; clear hK K
 refine goA hP6 [6] 1 31 95 Hz (m12.to ⟨il, il, trivial⟩) (.fieldAddr (off := 2) rfl Tryz.underlying29 rfl (s := 0) (by kernel_rfl) rfl <| .nil) ?_
 clear Hz Az; intro Az Hz
 refine stepE_only 5 rfl (by kernel_rfl) rfl (fun K hK => ?_)
 refine e_call Hz Tryz.func120 rfl rfl rfl rfl (plainB_any d _ _ _ ((h0.now' m12 rfl).any) hd) ?_
 rintro e w15 ⟨p15, c15, rfl, hd15, hb15⟩
 have m16 := m12.callF 6 rfl hb15 hd15
 clear m12
 clear hb15 hd15
 refine ⟨_, rfl, ?_⟩; clear Hz Az; intro Az Hz
 refine hK _ _ (m16.to ⟨il, il, trivial⟩) ?_; clear hK K
 refine stepE_end 7 rfl (by kernel_rfl) rfl (by rfl) (fun K hK => ?_)
 refine e_store1 Hz m16 3 rfl rfl rfl rfl rfl sz26ba (by dsimp only [List.set] <;> rfl) ?_
 clear m16; intro w18 m18 hB18
 clear hB18
 refine hK _ _ ?_; clear hK K
 refine goB hP6 [8] 1 255 511 Hz (.fieldAddr (off := 3) rfl Tryz.underlying29 rfl (s := 0) (by kernel_rfl) rfl <| .nil) ?_
 clear Hz Az; intro Az Hz
 refine stepE_end 9 rfl (by kernel_rfl) rfl (by rfl) (fun K hK => ?_)
 refine e_store1 Hz m18 3 rfl rfl rfl rfl rfl sz27ba (by dsimp only [List.set] <;> rfl) ?_
 clear m18; intro w20 m20 hB20
 clear hB20
 refine hK _ _ ?_; clear hK K
 refine wpAnyE_done (by kernel_rfl) ?_ _
 refine hK1 _ _ ?_; clear hK1; try clear K1
 replace Hz : Has 12 [(1, _), (2, _)] Az := Hz.only [1, 2]
 refine wp_seq_k (fun K2 hK2 => ?_)
 refine wp_region_lit ?_
 refine goCh Hz (.loadBR m20 (i := 3) rfl rfl Tryz.underlying29 rfl sz29ba (by simp) (by dsimp only [List.drop, List.take] <;> rfl) .nil) ?_
 clear Hz Az; intro Az Hz
 refine wpList_plain rfl (fun K hK => ?_)
 refine e_storeW Hz m20 4 rfl rfl rfl rfl rfl sz29ba ?_
 clear m20; intro w24 m24 hB24
 clear hB24
 refine hK _ _ ?_; clear hK K
 refine wpList_nil ?_
 refine hK2 _ _ ?_; clear hK2; try clear K2
 refine wp_ret ?_
 try dsimp only [Exit.then, Exit.inBlock]
 refine (retC (fn := Tryz.f81) Hz m24 (i := 4) rfl rfl rfl Tryz.underlying29 rfl sz29ba ?_)
 exact ⟨_, _, _, _, rfl, m24.outF (i := 5) rfl, m24.outF (i := 6) rfl, m24.below⟩
theorem list_any (es : List (Int × Int × Int × List Int)) (p0 : Option Addr) (c0 nn : Nat) (w0 : World) (h0 : Rd (fun _ => True) w0 (.slice p0 nn c0) (.l 4 (es.map entD))) (hl : es.length ≤ 1000000) (hok : EntsOk es) :
   Calls Tryz.prog 118 #[.slice p0 nn c0, .func (.func 119) #[] #[]] w0 fun e w' => ∃ p c, e = .returned (.slice p (es.map entD).length c) ∧ Rd (New w0) w' (.slice p (es.map entD).length c) (.l 4 (es.map entD)) ∧ Below w0.heap.size w0 w' := by
 obtain rfl : nn = es.length := by obtain ⟨pq, cq, hv, _⟩ := h0.l_shape; injection hv with _ e2 _; rw [List.length_map] at e2; exact e2
 refine enter (fn := Tryz.f118) Tryz.func118 rfl Tryz.ntmps118 rfl (fun Az Hz => ?_)
 simp only [List.zipIdx_cons, List.zipIdx_nil, List.map_cons, List.map_nil, Nat.reduceAdd, Nat.zero_add] at Hz
 have m0 := MemOk.start (fun _ => False) w0
 refine regS Hz (.assign rfl <| .nil) ?_
 clear Hz Az; intro Az Hz
 refine wp_seq_k (fun K0 hK0 => ?_)
 refine wp_region_lit ?_
 refine goCh Hz (.move rfl <| .len rfl Tryz.underlying30 <| .nil) ?_
 clear Hz Az; intro Az Hz
 refine wpList_plain rfl (fun K hK => ?_)
 refine e_call Hz Tryz.func148 rfl rfl rfl rfl (growE_any _ _ (by omega)) ?_
 rintro e w6 ⟨p6, c6, rfl, ho6, hb6⟩
 have m7 := m0.newR 3 hb6 (rowNil ho6)
 clear m0
 clear hb6 ho6
 refine ⟨_, rfl, ?_⟩; clear Hz Az; intro Az Hz
 refine hK _ _ ?_; clear hK K
 refine goCh Hz (.assign rfl .nil) ?_
 clear Hz Az; intro Az Hz
 refine wpList_nil ?_
 refine hK0 _ _ ?_; clear hK0; try clear K0
 refine wp_seq_k (fun K1 hK1 => ?_)
 refine regS Hz (.move rfl <| .len rfl Tryz.underlying30 <| .move rfl <| .nil) ?_
 clear Hz Az; intro Az Hz
 refine wp_block ?_
 refine wp_loop_ghost (fun g a w => ∃ (k : Nat) (p : Option Addr) (c : Nat), k ≤ es.length ∧ g = es.length - k ∧ Has 25 [(1, .func (.func 119) #[] #[]), (5, .slice p ((es.take k).map entD).length c), (11, .slice p0 es.length c0), (12, .int .i64 es.length), (13, .int .i64 k)] a ∧ MemOk (cn w0) w0 [(3, .row (.slice p ((es.take k).map entD).length c) 62 4 ((es.take k).map entD))] w) (es.length) ?_ ?_
 · exact ⟨0, _, _, Nat.zero_le _, rfl, Hz.only [1, 5, 11, 12, 13], m7.only [3]⟩
 ·
  clear Hz m7
  rintro g Az w13 ⟨k, p, c, hkl, hg, Hz, m13⟩
  refine regS Hz (.lss rfl rfl <| .nil) ?_
  clear Hz Az; intro Az Hz
  refine wp_seq_k (fun K2 hK2 => ?_)
  refine bool_cases Hz (t := 14) rfl ?_ ?_
  ·
   clear Hz; intro hb15 Hz
   try simp only [Q1x, Q2x, Q3x, Q4x, Q5x, Q6x, Q7x, Q8x, Q9x, Q0x, Qax, Qbx] at hb15
   have hk : k < es.length := by omega
   obtain ⟨⟨ei, et, ek, ed⟩, hes⟩ : ∃ e, es[k]? = some e := ⟨_, List.getElem?_eq_getElem hk⟩
   have hed := hok _ (List.mem_of_getElem? hes)
   dsimp only at hed
   refine wp_cond_true (Hz.ev (x := .tmp 14) rfl) ?_
   refine wp_skip ?_
   refine hK2 _ _ ?_; clear hK2; try clear K2
   refine wp_seq_k (fun K3 hK3 => ?_)
   refine wp_block ?_
   refine wp_seq_k (fun K4 hK4 => ?_)
   refine wp_region_lit ?_
   obtain ⟨gx17, ox17, vx17, hp17, hl17, hR17, hrg17⟩ := h0.extA (k) (r := [.v (.int .i64 ei), .v (.int .i64 et), .v (.int .i64 ek), .ns .u8 ed]) (ent_get hes)
   cases hp17; clear hl17
   rcases hR17 with _ | ⟨hd17_0, _ | ⟨hd17_1, _ | ⟨hd17_2, _ | ⟨hd17_3, _ | _⟩⟩⟩⟩
   obtain rfl := hd17_0.v_out
   clear hd17_0
   obtain rfl := hd17_1.v_out
   clear hd17_1
   obtain rfl := hd17_2.v_out
   clear hd17_2
   obtain ⟨p18, c18, hv18, hw18⟩ := hd17_3.ns_shape; subst hv18
   refine goCh Hz (.c rfl (fun _ h_ => y_idx h_ rfl rfl Tryz.underlying30 sz62li (k) rfl hk) <| .loadAt (hrg17 m13 rfl) rfl Tryz.underlying62 rfl sz62li <| .nil) ?_
   clear Hz Az; intro Az Hz
   refine wpList_plain rfl (fun K hK => ?_)
   refine e_alloc Hz m13 101 zc62li rfl ?_
   clear Hz Az m13; intro g21 Az w22 Hz m22 hB22 hg22
   clear hB22 hg22
   refine hK _ _ ?_; clear hK K
   refine wpList_plain rfl (fun K hK => ?_)
   refine e_storeW Hz m22 101 rfl rfl rfl rfl rfl sz62li ?_
   clear m22; intro w23 m23 hB23
   clear hB23
   refine hK _ _ ?_; clear hK K
   refine wpList_nil ?_
   refine hK4 _ _ ?_; clear hK4; try clear K4
   refine wp_region_lit ?_
   refine goCh Hz (.move rfl <| .move rfl <| .loadBR m23 (i := 101) rfl rfl Tryz.underlying62 rfl sz62li (by simp) (by dsimp only [List.drop, List.take] <;> rfl) <| .nil) ?_
   clear Hz Az; intro Az Hz
   refine wpList_plain rfl (fun K hK => ?_)
   refine e_callV Hz rfl Tryz.func119 rfl rfl rfl rfl (entry_any _ _ _ ed _ _ _ ((hd17_3.now' m23 rfl).any) hed) ?_
   rintro e w27 ⟨p27, c27, rfl, hd27, hb27⟩
   have m28 := m23.callF 102 rfl hb27 hd27
   clear m23
   clear hb27 hd27
   refine ⟨_, rfl, ?_⟩; clear Hz Az; intro Az Hz
   refine hK _ _ ?_; clear hK K
   refine wpList_plain rfl (fun K hK => ?_)
   refine e_litR Hz m28 103 (mm := 4) rfl (.cons rfl rfl (.cons (.v _) (.cons (.v _) (.cons (.v _) (.cons (m28.rd (i := 102) rfl) .nil)))) <| .nil) Tryz.underlying30 inf62li rfl rfl rfl rfl rfl ?_
   clear Hz Az m28; intro g30 Az w31 Hz m31
   refine hK _ _ ?_; clear hK K
   have m33 := m31.freezeR 103 rfl; clear m31
   refine wpList_plain rfl (fun K hK => ?_)
   refine e_appR Hz m33 3 rfl rfl rfl (m33.rd (i := 103) rfl) Tryz.underlying30 inf62li rfl rfl (by decide) (by simp; omega) rfl ?_
   clear Hz Az m33; intro p32 c32 Az w34 Hz m34
   refine hK _ _ ?_; clear hK K
   refine goCh Hz (.assign rfl .nil) ?_
   clear Hz Az; intro Az Hz
   refine wpList_nil ?_
   refine hK3 _ _ ?_; clear hK3; try clear K3
   replace Hz : Has 25 [(1, _), (5, _), (11, _), (12, _), (13, _)] Az := Hz.only [1, 5, 11, 12, 13]
   refine wp_region_lit ?_
   refine goCh Hz (.add rfl rfl (r := ((k + 1 : Nat) : Int)) (by rw [IntWalk.i64_in _ (by omega)]; omega) <| .move rfl <| .nil) ?_
   clear Hz Az; intro Az Hz
   refine wpList_nil ?_
   show ∃ n', n' < _ ∧ _
   have hE : (es.take k).map entD ++ [[D.v (.int .i64 ei), .v (.int .i64 et), .v (.int .i64 ek), .ns .u8 ed]] = (es.take (k + 1)).map entD := by rw [take_snoc hes, List.map_append]; rfl
   rw [hE] at m34 Hz
   exact ⟨es.length - (k + 1), by omega, k + 1, _, _, by omega, rfl, Hz.only [1, 5, 11, 12, 13], m34.only [3]⟩
  ·
   clear Hz; intro hb15 Hz
   try simp only [Q1x, Q2x, Q3x, Q4x, Q5x, Q6x, Q7x, Q8x, Q9x, Q0x, Qax, Qbx] at hb15
   obtain rfl : k = es.length := by omega
   refine wp_cond_false (Hz.ev (x := .tmp 14) rfl) ?_
   refine wp_exit ?_
   refine hK1 _ _ ?_; clear hK1; try clear K1
   refine regS Hz (.move rfl <| .assign rfl <| .nil) ?_
   clear Hz Az; intro Az Hz
   refine wp_ret ?_
   try dsimp only [Exit.then, Exit.inBlock]
   refine (ret1 (fn := Tryz.f118) Hz rfl rfl ?_)
   rw [List.take_length] at *
   have m41 := m13.freezeR 3 rfl; clear m13
   exact ⟨_, _, rfl, m41.outF (i := 3) rfl, m41.below⟩
theorem run_any (pv : Int) (es : List (Int × Int × Int × List Int)) (p0 : Option Addr) (c0 nn : Nat) (w0 : World) (h0 : Rd (fun _ => True) w0 (.slice p0 nn c0) (.l 4 (es.map entD))) (hl : es.length ≤ 1000000) (hp : -2000000000000000000 ≤ pv ∧ pv ≤ 2000000000000000000) :
   Calls Tryz.prog 123 #[.int .i64 pv, .slice p0 nn c0] w0 fun e w' => ∃ k : Nat, e = .returned (.slice p0 k c0) ∧ k ≤ es.length ∧ (∀ j, j < k → (es.getD j e0).1 = pv + 1 + j) ∧ (k = es.length ∨ (k < es.length ∧ ¬ (es.getD k e0).1 = pv + 1 + k)) ∧ Below w0.heap.size w0 w' := by
 obtain rfl : nn = es.length := by obtain ⟨pq, cq, hv, _⟩ := h0.l_shape; injection hv with _ e2 _; rw [List.length_map] at e2; exact e2
 refine enter (fn := Tryz.f123) Tryz.func123 rfl Tryz.ntmps123 rfl (fun Az Hz => ?_)
 simp only [List.zipIdx_cons, List.zipIdx_nil, List.map_cons, List.map_nil, Nat.reduceAdd, Nat.zero_add] at Hz
 have m0 := MemOk.start (fun _ => False) w0
 have hcap : es.length ≤ c0 := by obtain ⟨pq, cq, hv, hcap⟩ := h0.l_shape; injection hv with _ _ e3; rw [List.length_map] at hcap; omega
 refine regS Hz (.assign rfl <| .nil) ?_
 clear Hz Az; intro Az Hz
 refine wp_seq_k (fun K0 hK0 => ?_)
 refine regS Hz (.move rfl <| .len rfl Tryz.underlying30 <| .move rfl <| .nil) ?_
 clear Hz Az; intro Az Hz
 refine wp_block ?_
 refine wp_loop_ghost (fun g a w => ∃ k : Nat, k ≤ es.length ∧ g = es.length - k ∧ (∀ j, j < k → (es.getD j e0).1 = pv + 1 + j) ∧ Has 26 [(0, .int .i64 pv), (1, .slice p0 es.length c0), (7, .slice p0 es.length c0), (8, .int .i64 es.length), (9, .int .i64 k)] a ∧ MemOk (cn w0) w0 [] w) (es.length) ?_ ?_
 · exact ⟨0, Nat.zero_le _, rfl, (fun j hj => by omega), Hz.only [0, 1, 7, 8, 9], m0.only []⟩
 ·
  clear Hz m0
  rintro g Az w5 ⟨k, hkl, hg, hrun, Hz, m5⟩
  refine regS Hz (.lss rfl rfl <| .nil) ?_
  clear Hz Az; intro Az Hz
  refine wp_seq_k (fun K1 hK1 => ?_)
  refine bool_cases Hz (t := 10) rfl ?_ ?_
  ·
   clear Hz; intro hb7 Hz
   try simp only [Q1x, Q2x, Q3x, Q4x, Q5x, Q6x, Q7x, Q8x, Q9x, Q0x, Qax, Qbx] at hb7
   have hk : k < es.length := by omega
   obtain ⟨⟨ei, et, ek, ed⟩, hes⟩ : ∃ e, es[k]? = some e := ⟨_, List.getElem?_eq_getElem hk⟩
   refine wp_cond_true (Hz.ev (x := .tmp 10) rfl) ?_
   refine wp_skip ?_
   refine hK1 _ _ ?_; clear hK1; try clear K1
   refine wp_seq_k (fun K2 hK2 => ?_)
   refine wp_block ?_
   refine wp_seq_k (fun K3 hK3 => ?_)
   refine wp_region_lit ?_
   refine goCh Hz (.move rfl .nil) ?_
   clear Hz Az; intro Az Hz
   obtain ⟨gx11, ox11, vx11, hp11, hl11, hR11, hrg11⟩ := h0.extA (k) (r := [.v (.int .i64 ei), .v (.int .i64 et), .v (.int .i64 ek), .ns .u8 ed]) (ent_get hes)
   cases hp11; clear hl11
   rcases hR11 with _ | ⟨hd11_0, _ | ⟨hd11_1, _ | ⟨hd11_2, _ | ⟨hd11_3, _ | _⟩⟩⟩⟩
   obtain rfl := hd11_0.v_out
   clear hd11_0
   obtain rfl := hd11_1.v_out
   clear hd11_1
   obtain rfl := hd11_2.v_out
   clear hd11_2
   obtain ⟨p12, c12, hv12, hw12⟩ := hd11_3.ns_shape; subst hv12
   refine goCh Hz (.c rfl (fun _ h_ => y_idx h_ rfl rfl Tryz.underlying30 sz62ru (k) rfl hk) <| .loadAt (hrg11 m5 rfl) rfl Tryz.underlying62 rfl sz62ru <| .nil) ?_
   clear Hz Az; intro Az Hz
   refine wpList_plain rfl (fun K hK => ?_)
   refine e_alloc Hz m5 101 zc62ru rfl ?_
   clear Hz Az m5; intro g15 Az w16 Hz m16 hB16 hg16
   clear hB16 hg16
   refine hK _ _ ?_; clear hK K
   refine goCh Hz (.assign rfl .nil) ?_
   clear Hz Az; intro Az Hz
   refine wpList_plain rfl (fun K hK => ?_)
   refine e_storeW Hz m16 101 rfl rfl rfl rfl rfl sz62ru ?_
   clear m16; intro w18 m18 hB18
   clear hB18
   refine hK _ _ ?_; clear hK K
   refine wpList_nil ?_
   refine hK3 _ _ ?_; clear hK3; try clear K3
   refine regS Hz (.fieldAddr (off := 0) rfl Tryz.underlying62 rfl (s := 0) (by kernel_rfl) rfl <| .loadB1 m18 (i := 101) rfl rfl rfl Tryz.underlying3 rfl <| .move rfl <| .add rfl rfl (r := pv + 1) (IntWalk.i64_in _ (by omega)) <| .move rfl <| .add rfl rfl (r := pv + 1 + k) (IntWalk.i64_in _ (by omega)) <| .neq rfl rfl <| .nil) ?_
   clear Hz Az; intro Az Hz
   refine bool_cases Hz (t := 20) rfl ?_ ?_
   ·
    clear Hz; intro hb26 Hz
    try simp only [Q1x, Q2x, Q3x, Q4x, Q5x, Q6x, Q7x, Q8x, Q9x, Q0x, Qax, Qbx] at hb26
    refine wp_cond_true (Hz.ev (x := .tmp 20) rfl) ?_
    replace Hz : Has 26 [(0, _), (1, _), (7, _), (8, _), (9, _), (5, _), (20, _)] Az := Hz.only [0, 1, 7, 8, 9, 5, 20]
    refine regS Hz (.move rfl <| .move rfl <| .c rfl (fun _ h_ => y_sliceHn h_ k rfl rfl Tryz.underlying30 sz62ru rfl (by omega)) <| .assign rfl <| .nil) ?_
    clear Hz Az; intro Az Hz
    refine wp_ret ?_
    try dsimp only [Exit.then, Exit.inBlock]
    refine (ret1 (fn := Tryz.f123) Hz rfl rfl ?_)
    exact ⟨k, rfl, hkl, hrun, .inr ⟨hk, run_stop hes (by simpa using hb26)⟩, m18.below⟩
   ·
    clear Hz; intro hb26 Hz
    try simp only [Q1x, Q2x, Q3x, Q4x, Q5x, Q6x, Q7x, Q8x, Q9x, Q0x, Qax, Qbx] at hb26
    refine wp_cond_false (Hz.ev (x := .tmp 20) rfl) ?_
    refine wp_skip ?_
    refine hK2 _ _ ?_; clear hK2; try clear K2
    replace Hz : Has 26 [(0, _), (1, _), (7, _), (8, _), (9, _), (20, _)] Az := Hz.only [0, 1, 7, 8, 9, 20]
    refine wp_region_lit ?_
    refine goCh Hz (.add rfl rfl (r := ((k + 1 : Nat) : Int)) (by rw [IntWalk.i64_in _ (by omega)]; omega) <| .move rfl <| .nil) ?_
    clear Hz Az; intro Az Hz
    refine wpList_nil ?_
    show ∃ n', n' < _ ∧ _
    exact ⟨es.length - (k + 1), by omega, k + 1, by omega, rfl, run_snoc hrun hes (by simpa using hb26), Hz.only [0, 1, 7, 8, 9], m18.only []⟩
  ·
   clear Hz; intro hb7 Hz
   try simp only [Q1x, Q2x, Q3x, Q4x, Q5x, Q6x, Q7x, Q8x, Q9x, Q0x, Qax, Qbx] at hb7
   obtain rfl : k = es.length := by omega
   refine wp_cond_false (Hz.ev (x := .tmp 10) rfl) ?_
   refine wp_exit ?_
   refine hK0 _ _ ?_; clear hK0; try clear K0
   refine regS Hz (.move rfl <| .assign rfl <| .nil) ?_
   clear Hz Az; intro Az Hz
   refine wp_ret ?_
   try dsimp only [Exit.then, Exit.inBlock]
   refine (ret1 (fn := Tryz.f123) Hz rfl rfl ?_)
   exact ⟨es.length, rfl, Nat.le_refl _, hrun, .inl rfl, m5.below⟩
end
section
theorem sz62te : (Tryz.prog.info? 62).map (·.size) = some 4 := by kernel_rfl
theorem sz62fr : (Tryz.prog.info? 62).map (·.size) = some 4 := by kernel_rfl
theorem sz29lb : (Tryz.prog.info? 29).map (·.size) = some 4 := by kernel_rfl
theorem zc29lb : ((Tryz.prog.info? 29).bind (·.zero)).map (·.cells.toList) = some [.int .i64 0, .int .i64 0, .slice none 0 0, .slice none 0 0] := by kernel_rfl

theorem MemOk.callFF {w w0 : World} {X : Cx} {M : Mm} (m : MemOk X w0 M w) (i j : Nat) (hi : lk M i = none) (hj : lk ((i, Res.gone) :: M) j = none) {w' : World} (hb : Below w.heap.size w w') {u v : Value} {d d2 : D} (h : Rd (New w) w' u d) (h2 : Rd (New w) w' v d2) : MemOk X w0 ((j, .dat v d2) :: (i, .dat u d) :: M) w' := by
 have m1 := m.callF i hi hb h
 refine m1.dat j ?_ (h2.cast (fun b hb' => ?_))
 · rw [lk_cons] at hj ⊢
   split at hj
   · cases hj
   · rename_i e; rw [if_neg e]; exact hj
 · have := m.free_out (.inr hb')
   exact free_add rfl this
set_option maxRecDepth 100000
set_option maxHeartbeats 4000000
theorem last_any (B : Nat) (bi : Int) (n cl : Nat) (pl : Option Addr) (vt vc vd : Value) (w0 : World) (hB : Blk w0 B 123 [.int .i64 bi, vt, vc, vd, .slice pl n cl]) (hbi : -1000000000000000000 ≤ bi ∧ bi ≤ 1000000000000000000) (hn : n ≤ 1000000) :
   Calls Tryz.prog 75 #[.pointer (some ⟨B, 0, none⟩)] w0 fun e w' => e = .returned (.int .i64 (bi + n)) ∧ Below w0.heap.size w0 w' := by
 refine enter (fn := Tryz.f75) Tryz.func75 rfl Tryz.ntmps75 rfl (fun Az Hz => ?_)
 simp only [List.zipIdx_cons, List.zipIdx_nil, List.map_cons, List.map_nil, Nat.reduceAdd, Nat.zero_add] at Hz
 have m0 := MemOk.start (fun _ => False) w0
 refine regS Hz (.assign rfl <| .nil) ?_
 clear Hz Az; intro Az Hz
 refine wp_seq_k (fun K0 hK0 => ?_)
 have m2 : MemOk _ _ [] _ := m0.only []; clear m0
 refine region_p 12 (B := []) (m2.to trivial) m2 (by kernel_rfl) (fun w3 hP3 m3 => ?_); clear m2
 refine goR hP3 [0, 1, 2, 3, 4, 5, 6, 7, 8, 9, 10, 11] [4, 8] 12 0 4095 Hz (m3.to trivial) (.move rfl <| .nilCheck rfl <| .fieldAddr (off := 0) rfl Tryz.underlying121 rfl (s := 3) (by kernel_rfl) rfl <| .fieldAddr (off := 0) rfl Tryz.underlying29 rfl (s := 0) (by kernel_rfl) rfl <| .loadX1 (fun _ h_ => (hB.now h_ rfl)) rfl rfl Tryz.underlying3 rfl <| .move rfl <| .nilCheck rfl <| .fieldAddr (off := 4) rfl Tryz.underlying121 rfl (s := 0) (by kernel_rfl) rfl <| .loadX1 (fun _ h_ => (hB.now h_ rfl)) rfl rfl Tryz.underlying30 rfl <| .len rfl Tryz.underlying30 <| .add rfl rfl (r := bi + n) (IntWalk.i64_in _ (by omega)) <| .assign rfl <| .nil) ?_
 clear Hz Az; intro Az Hz
 refine wpAnyE_done (by kernel_rfl) ?_ _
 refine hK0 _ _ ?_; clear hK0; try clear K0
 refine wp_ret ?_
 try dsimp only [Exit.then, Exit.inBlock]
 refine (ret1 (fn := Tryz.f75) Hz rfl rfl ?_)
 exact ⟨rfl, m3.below⟩
theorem place_yes (B : Nat) (bi : Int) (n cl : Nat) (pl : Option Addr) (vt vc vd : Value) (w0 : World) (k : Nat) (i : Int) (hB : Blk w0 B 123 [.int .i64 bi, vt, vc, vd, .slice pl n cl]) (hbi : -1000000000000000000 ≤ bi ∧ bi ≤ 1000000000000000000) (hn : n ≤ 1000000) (hk : k < n) (hi : i = bi + 1 + k) :
   Calls Tryz.prog 117 #[.pointer (some ⟨B, 0, none⟩), .int .i64 i] w0 fun e w' => e = .returned (.tuple #[.int .i64 k, .bool true]) ∧ Below w0.heap.size w0 w' := by
 refine enter (fn := Tryz.f117) Tryz.func117 rfl Tryz.ntmps117 rfl (fun Az Hz => ?_)
 simp only [List.zipIdx_cons, List.zipIdx_nil, List.map_cons, List.map_nil, Nat.reduceAdd, Nat.zero_add] at Hz
 have m0 := MemOk.start (fun _ => False) w0
 refine regS Hz (.assign rfl <| .assign rfl <| .nil) ?_
 clear Hz Az; intro Az Hz
 refine wp_seq_k (fun K0 hK0 => ?_)
 refine wp_seq_k (fun K1 hK1 => ?_)
 refine wp_region_lit ?_
 refine goCh Hz (.move rfl <| .move rfl <| .nilCheck rfl <| .fieldAddr (off := 0) rfl Tryz.underlying121 rfl (s := 3) (by kernel_rfl) rfl <| .fieldAddr (off := 0) rfl Tryz.underlying29 rfl (s := 0) (by kernel_rfl) rfl <| .loadX1 (hB.now m0 rfl) rfl rfl Tryz.underlying3 rfl <| .leq rfl rfl <| .move rfl <| .nil) ?_
 clear Hz Az; intro Az Hz
 refine bool_cases Hz (t := 13) rfl ?_ ?_
 · intro hb _; exact absurd hb (by simp; omega)
 clear Hz; intro _ Hz
 refine goCh Hz (.moveZ rfl <| .moveZ rfl <| .nil) ?_
 clear Hz Az; intro Az Hz
 refine st_ge Hz rfl rfl rfl rfl (fun K hK => ?_)
 refine e_call Hz Tryz.func75 rfl rfl rfl rfl (last_any _ _ _ _ _ _ _ _ _ (hB.now m0 rfl) (by omega) (by first | omega | (simp; omega) | simp)) ?_
 rintro e w22 ⟨rfl, hb22⟩
 have m23 := m0.later hb22
 clear m0
 clear hb22
 refine ⟨_, rfl, ?_⟩; clear Hz Az; intro Az Hz
 refine hK _ _ ?_; clear hK K
 refine goCh Hz (.gtrZ rfl rfl <| .pickF rfl rfl <| .nil) ?_
 clear Hz Az; intro Az Hz
 refine wpList_nil ?_
 refine hK1 _ _ ?_; clear hK1; try clear K1
 refine bool_cases Hz (t := 18) rfl ?_ ?_
 · intro hb _; exact absurd hb (by simp; omega)
 clear Hz; intro _ Hz
 refine wp_cond_false (Hz.ev (x := .tmp 18) rfl) ?_
 refine wp_skip ?_
 refine hK0 _ _ ?_; clear hK0; try clear K0
 replace Hz : Has 27 [(0, _), (1, _), (4, _), (5, _)] Az := Hz.only [0, 1, 4, 5]
 refine regS Hz (.move rfl <| .move rfl <| .nilCheck rfl <| .fieldAddr (off := 0) rfl Tryz.underlying121 rfl (s := 3) (by kernel_rfl) rfl <| .fieldAddr (off := 0) rfl Tryz.underlying29 rfl (s := 0) (by kernel_rfl) rfl <| .loadX1 (hB.now m23 rfl) rfl rfl Tryz.underlying3 rfl <| .sub rfl rfl (r := (k : Int) + 1) (by rw [IntWalk.i64_in _ (by omega)]; omega) <| .sub rfl rfl (r := (k : Int)) (by rw [IntWalk.i64_in _ (by omega)]; omega) <| .assign rfl <| .assign rfl <| .nil) ?_
 clear Hz Az; intro Az Hz
 refine wp_ret ?_
 try dsimp only [Exit.then, Exit.inBlock]
 refine (ret2 (fn := Tryz.f117) Hz rfl rfl rfl ?_)
 exact ⟨rfl, m23.below⟩
theorem place_no (B : Nat) (bi : Int) (n cl : Nat) (pl : Option Addr) (vt vc vd : Value) (w0 : World) (i : Int) (hB : Blk w0 B 123 [.int .i64 bi, vt, vc, vd, .slice pl n cl]) (hbi : -1000000000000000000 ≤ bi ∧ bi ≤ 1000000000000000000) (hn : n ≤ 1000000) (hi : i ≤ bi ∨ bi + n < i) :
   Calls Tryz.prog 117 #[.pointer (some ⟨B, 0, none⟩), .int .i64 i] w0 fun e w' => e = .returned (.tuple #[.int .i64 0, .bool false]) ∧ Below w0.heap.size w0 w' := by
 refine enter (fn := Tryz.f117) Tryz.func117 rfl Tryz.ntmps117 rfl (fun Az Hz => ?_)
 simp only [List.zipIdx_cons, List.zipIdx_nil, List.map_cons, List.map_nil, Nat.reduceAdd, Nat.zero_add] at Hz
 have m0 := MemOk.start (fun _ => False) w0
 refine regS Hz (.assign rfl <| .assign rfl <| .nil) ?_
 clear Hz Az; intro Az Hz
 refine wp_seq_k (fun K0 hK0 => ?_)
 refine wp_seq_k (fun K1 hK1 => ?_)
 refine wp_region_lit ?_
 refine goCh Hz (.move rfl <| .move rfl <| .nilCheck rfl <| .fieldAddr (off := 0) rfl Tryz.underlying121 rfl (s := 3) (by kernel_rfl) rfl <| .fieldAddr (off := 0) rfl Tryz.underlying29 rfl (s := 0) (by kernel_rfl) rfl <| .loadX1 (hB.now m0 rfl) rfl rfl Tryz.underlying3 rfl <| .leq rfl rfl <| .move rfl <| .nil) ?_
 clear Hz Az; intro Az Hz
 refine bool_cases Hz (t := 13) rfl ?_ ?_
 ·
  clear Hz; intro hb19 Hz
  try simp only [Q1x, Q2x, Q3x, Q4x, Q5x, Q6x, Q7x, Q8x, Q9x, Q0x, Qax, Qbx] at hb19
  refine goCh Hz (.sk <| .sk <| .sk <| .sk <| .pickT rfl rfl <| .nil) ?_
  clear Hz Az; intro Az Hz
  refine wpList_nil ?_
  refine hK1 _ _ ?_; clear hK1; try clear K1
  refine wp_cond_true (Hz.ev (x := .tmp 18) rfl) ?_
  replace Hz : Has 27 [(0, _), (1, _), (4, _), (5, _)] Az := Hz.only [0, 1, 4, 5]
  refine regS Hz (.assign rfl <| .assign rfl <| .nil) ?_
  clear Hz Az; intro Az Hz
  refine wp_ret ?_
  try dsimp only [Exit.then, Exit.inBlock]
  refine (ret2 (fn := Tryz.f117) Hz rfl rfl rfl ?_)
  exact ⟨rfl, m0.below⟩
 ·
  clear Hz; intro hb19 Hz
  try simp only [Q1x, Q2x, Q3x, Q4x, Q5x, Q6x, Q7x, Q8x, Q9x, Q0x, Qax, Qbx] at hb19
  refine goCh Hz (.moveZ rfl <| .moveZ rfl <| .nil) ?_
  clear Hz Az; intro Az Hz
  refine st_ge Hz rfl rfl rfl rfl (fun K hK => ?_)
  refine e_call Hz Tryz.func75 rfl rfl rfl rfl (last_any _ _ _ _ _ _ _ _ _ (hB.now m0 rfl) (by omega) (by first | omega | (simp; omega) | simp)) ?_
  rintro e w30 ⟨rfl, hb30⟩
  have m31 := m0.later hb30
  clear m0
  clear hb30
  refine ⟨_, rfl, ?_⟩; clear Hz Az; intro Az Hz
  refine hK _ _ ?_; clear hK K
  refine goCh Hz (.gtrZ rfl rfl <| .pickF rfl rfl <| .nil) ?_
  clear Hz Az; intro Az Hz
  refine wpList_nil ?_
  refine hK1 _ _ ?_; clear hK1; try clear K1
  refine bool_cases Hz (t := 18) rfl ?_ ?_
  rotate_left
  · intro hb _; exact absurd hb (by simp at *; omega)
  clear Hz; intro _ Hz
  refine wp_cond_true (Hz.ev (x := .tmp 18) rfl) ?_
  replace Hz : Has 27 [(0, _), (1, _), (4, _), (5, _)] Az := Hz.only [0, 1, 4, 5]
  refine regS Hz (.assign rfl <| .assign rfl <| .nil) ?_
  clear Hz Az; intro Az Hz
  refine wp_ret ?_
  try dsimp only [Exit.then, Exit.inBlock]
  refine (ret2 (fn := Tryz.f117) Hz rfl rfl rfl ?_)
  exact ⟨rfl, m31.below⟩
theorem place_from (B : Nat) (bi : Int) (n cl : Nat) (pl : Option Addr) (vt vc vd : Value) (w0 : World) (k : Nat) (i : Int) (hB : Blk w0 B 123 [.int .i64 bi, vt, vc, vd, .slice pl n cl]) (hbi : -1000000000000000000 ≤ bi ∧ bi ≤ 1000000000000000000) (hn : n ≤ 1000000) (hk0 : (i ≤ bi ∧ k = 0) ∨ i = bi + 1 + k) (hk : i ≤ bi + n) :
   Calls Tryz.prog 117 #[.pointer (some ⟨B, 0, none⟩), .int .i64 i] w0 fun e w' => ∃ b, e = .returned (.tuple #[.int .i64 k, .bool b]) ∧ Below w0.heap.size w0 w' := by
 rcases hk0 with ⟨h1, rfl⟩ | h1
 · exact (place_no B bi n cl pl vt vc vd w0 i hB hbi hn (.inl h1)).mono (fun e w' h => ⟨false, h⟩)
 · by_cases hkn : k < n
   · exact (place_yes B bi n cl pl vt vc vd w0 k i hB hbi hn hkn h1).mono (fun e w' h => ⟨true, h⟩)
   · omega
theorem term_at (B : Nat) (bi bt : Int) (cf d : List Int) (es : List (Int × Int × Int × List Int)) (pc pd pl : Option Addr) (cc cd cl : Nat) (w0 : World) (hB : Blk w0 B 123 [.int .i64 bi, .int .i64 bt, .slice pc cf.length cc, .slice pd d.length cd, .slice pl (es.map entD).length cl]) (hl : Rd (fun _ => True) w0 (.slice pl (es.map entD).length cl) (.l 4 (es.map entD))) (hbi : -1000000000000000000 ≤ bi ∧ bi ≤ 1000000000000000000) (hn : es.length ≤ 1000000) :
   Calls Tryz.prog 113 #[.pointer (some ⟨B, 0, none⟩), .int .i64 bi] w0 fun e w' => e = .returned (.int .i64 bt) ∧ Below w0.heap.size w0 w' := by
 refine enter (fn := Tryz.f113) Tryz.func113 rfl Tryz.ntmps113 rfl (fun Az Hz => ?_)
 simp only [List.zipIdx_cons, List.zipIdx_nil, List.map_cons, List.map_nil, Nat.reduceAdd, Nat.zero_add] at Hz
 have m0 := MemOk.start (fun _ => False) w0
 refine regS Hz (.assign rfl <| .nil) ?_
 clear Hz Az; intro Az Hz
 refine wp_seq_k (fun K0 hK0 => ?_)
 refine regS Hz (.move rfl <| .move rfl <| .nilCheck rfl <| .fieldAddr (off := 0) rfl Tryz.underlying123 rfl (s := 4) (by kernel_rfl) rfl <| .fieldAddr (off := 0) rfl Tryz.underlying121 rfl (s := 3) (by kernel_rfl) rfl <| .fieldAddr (off := 0) rfl Tryz.underlying29 rfl (s := 0) (by kernel_rfl) rfl <| .loadX1 (hB.now m0 rfl) rfl rfl Tryz.underlying3 rfl <| .eql rfl rfl <| .nil) ?_
 clear Hz Az; intro Az Hz
 refine bool_cases Hz (t := 14) rfl ?_ ?_
 rotate_left
 · intro hb _; exact absurd hb (by simp)
 clear Hz; intro _ Hz
 refine wp_cond_true (Hz.ev (x := .tmp 14) rfl) ?_
 replace Hz : Has 39 [(0, _), (1, _), (4, _)] Az := Hz.only [0, 1, 4]
 refine regS Hz (.move rfl <| .nilCheck rfl <| .fieldAddr (off := 0) rfl Tryz.underlying123 rfl (s := 4) (by kernel_rfl) rfl <| .fieldAddr (off := 0) rfl Tryz.underlying121 rfl (s := 3) (by kernel_rfl) rfl <| .fieldAddr (off := 1) rfl Tryz.underlying29 rfl (s := 0) (by kernel_rfl) rfl <| .loadX1 (hB.now m0 rfl) rfl rfl Tryz.underlying3 rfl <| .assign rfl <| .nil) ?_
 clear Hz Az; intro Az Hz
 refine wp_ret ?_
 try dsimp only [Exit.then, Exit.inBlock]
 refine (ret1 (fn := Tryz.f113) Hz rfl rfl ?_)
 exact ⟨rfl, m0.below⟩
theorem term_in (B : Nat) (bi bt : Int) (cf d : List Int) (es : List (Int × Int × Int × List Int)) (pc pd pl : Option Addr) (cc cd cl : Nat) (w0 : World) (k : Nat) (i : Int) {ei et ek : Int} {ed : List Int} (hB : Blk w0 B 123 [.int .i64 bi, .int .i64 bt, .slice pc cf.length cc, .slice pd d.length cd, .slice pl (es.map entD).length cl]) (hl : Rd (fun _ => True) w0 (.slice pl (es.map entD).length cl) (.l 4 (es.map entD))) (hbi : -1000000000000000000 ≤ bi ∧ bi ≤ 1000000000000000000) (hn : es.length ≤ 1000000) (hes : es[k]? = some (ei, et, ek, ed)) (hi : i = bi + 1 + k) :
   Calls Tryz.prog 113 #[.pointer (some ⟨B, 0, none⟩), .int .i64 i] w0 fun e w' => e = .returned (.int .i64 et) ∧ Below w0.heap.size w0 w' := by
 have hk := (List.getElem?_eq_some_iff.1 hes).1
 refine enter (fn := Tryz.f113) Tryz.func113 rfl Tryz.ntmps113 rfl (fun Az Hz => ?_)
 simp only [List.zipIdx_cons, List.zipIdx_nil, List.map_cons, List.map_nil, Nat.reduceAdd, Nat.zero_add] at Hz
 have m0 := MemOk.start (fun _ => False) w0
 refine regS Hz (.assign rfl <| .nil) ?_
 clear Hz Az; intro Az Hz
 refine wp_seq_k (fun K0 hK0 => ?_)
 refine regS Hz (.move rfl <| .move rfl <| .nilCheck rfl <| .fieldAddr (off := 0) rfl Tryz.underlying123 rfl (s := 4) (by kernel_rfl) rfl <| .fieldAddr (off := 0) rfl Tryz.underlying121 rfl (s := 3) (by kernel_rfl) rfl <| .fieldAddr (off := 0) rfl Tryz.underlying29 rfl (s := 0) (by kernel_rfl) rfl <| .loadX1 (hB.now m0 rfl) rfl rfl Tryz.underlying3 rfl <| .eql rfl rfl <| .nil) ?_
 clear Hz Az; intro Az Hz
 refine bool_cases Hz (t := 14) rfl ?_ ?_
 · intro hb _; exact absurd hb (by simp; omega)
 clear Hz; intro _ Hz
 refine wp_cond_false (Hz.ev (x := .tmp 14) rfl) ?_
 refine wp_skip ?_
 refine hK0 _ _ ?_; clear hK0; try clear K0
 refine wp_seq_k (fun K1 hK1 => ?_)
 replace Hz : Has 39 [(0, _), (1, _), (4, _)] Az := Hz.only [0, 1, 4]
 refine wp_seq_k (fun K2 hK2 => ?_)
 refine wp_region_lit ?_
 refine goCh Hz (.move rfl <| .nilCheck rfl <| .fieldAddr (off := 0) rfl Tryz.underlying123 rfl (s := 4) (by kernel_rfl) rfl <| .move rfl <| .nil) ?_
 clear Hz Az; intro Az Hz
 refine wpList_plain rfl (fun K hK => ?_)
 refine e_call Hz Tryz.func117 rfl rfl rfl rfl (place_yes _ _ _ _ _ _ _ _ _ k _ (hB.now m0 rfl) (by omega) (by first | omega | (simp; omega) | simp) (by simp; omega) (by omega)) ?_
 rintro e w20 ⟨rfl, hb20⟩
 have m21 := m0.later hb20
 clear m0
 clear hb20
 refine ⟨_, rfl, ?_⟩; clear Hz Az; intro Az Hz
 refine hK _ _ ?_; clear hK K
 refine goCh Hz (.move rfl <| .extract rfl rfl <| .extract rfl rfl <| .assign rfl <| .assign rfl <| .nil) ?_
 clear Hz Az; intro Az Hz
 refine wpList_nil ?_
 refine hK2 _ _ ?_; clear hK2; try clear K2
 replace Hz : Has 39 [(0, _), (4, _), (5, _), (6, _)] Az := Hz.only [0, 4, 5, 6]
 refine regS Hz (.move rfl <| .nil) ?_
 clear Hz Az; intro Az Hz
 refine wp_cond_true (Hz.ev (x := .tmp 29) rfl) ?_
 refine wp_seq_k (fun K3 hK3 => ?_)
 refine wp_region_lit ?_
 refine goCh Hz (.move rfl <| .nilCheck rfl <| .fieldAddr (off := 0) rfl Tryz.underlying123 rfl (s := 4) (by kernel_rfl) rfl <| .fieldAddr (off := 4) rfl Tryz.underlying121 rfl (s := 0) (by kernel_rfl) rfl <| .loadX1 (hB.now m21 rfl) rfl rfl Tryz.underlying30 rfl <| .move rfl <| .nil) ?_
 clear Hz Az; intro Az Hz
 obtain ⟨gx43, ox43, vx43, hp43, hl43, hR43, hrg43⟩ := hl.extA (k) (r := [.v (.int .i64 ei), .v (.int .i64 et), .v (.int .i64 ek), .ns .u8 ed]) (ent_get hes)
 cases hp43; clear hl43
 rcases hR43 with _ | ⟨hd43_0, _ | ⟨hd43_1, _ | ⟨hd43_2, _ | ⟨hd43_3, _ | _⟩⟩⟩⟩
 obtain rfl := hd43_0.v_out
 clear hd43_0
 obtain rfl := hd43_1.v_out
 clear hd43_1
 obtain rfl := hd43_2.v_out
 clear hd43_2
 obtain ⟨p44, c44, hv44, hw44⟩ := hd43_3.ns_shape; subst hv44
 refine goCh Hz (.c rfl (fun _ h_ => y_idx h_ rfl rfl Tryz.underlying30 sz62te (k) rfl (by rw [List.length_map]; exact hk)) <| .fieldAddrQ 1 rfl Tryz.underlying62 rfl (s := 0) (by kernel_rfl) rfl <| .loadAt1 (hrg43 m21 rfl) (q := 1) rfl rfl rfl Tryz.underlying3 rfl <| .assign rfl <| .nil) ?_
 clear Hz Az; intro Az Hz
 refine wpList_nil ?_
 refine hK3 _ _ ?_; clear hK3; try clear K3
 refine wp_ret ?_
 try dsimp only [Exit.then, Exit.inBlock]
 refine (ret1 (fn := Tryz.f113) Hz rfl rfl ?_)
 exact ⟨rfl, m21.below⟩
theorem term_out (B : Nat) (bi bt : Int) (cf d : List Int) (es : List (Int × Int × Int × List Int)) (pc pd pl : Option Addr) (cc cd cl : Nat) (w0 : World) (i : Int) (hB : Blk w0 B 123 [.int .i64 bi, .int .i64 bt, .slice pc cf.length cc, .slice pd d.length cd, .slice pl (es.map entD).length cl]) (hl : Rd (fun _ => True) w0 (.slice pl (es.map entD).length cl) (.l 4 (es.map entD))) (hbi : -1000000000000000000 ≤ bi ∧ bi ≤ 1000000000000000000) (hn : es.length ≤ 1000000) (hi : i < bi ∨ bi + es.length < i) :
   Calls Tryz.prog 113 #[.pointer (some ⟨B, 0, none⟩), .int .i64 i] w0 fun e w' => e = .returned (.int .i64 (-1)) ∧ Below w0.heap.size w0 w' := by
 refine enter (fn := Tryz.f113) Tryz.func113 rfl Tryz.ntmps113 rfl (fun Az Hz => ?_)
 simp only [List.zipIdx_cons, List.zipIdx_nil, List.map_cons, List.map_nil, Nat.reduceAdd, Nat.zero_add] at Hz
 have m0 := MemOk.start (fun _ => False) w0
 refine regS Hz (.assign rfl <| .nil) ?_
 clear Hz Az; intro Az Hz
 refine wp_seq_k (fun K0 hK0 => ?_)
 refine regS Hz (.move rfl <| .move rfl <| .nilCheck rfl <| .fieldAddr (off := 0) rfl Tryz.underlying123 rfl (s := 4) (by kernel_rfl) rfl <| .fieldAddr (off := 0) rfl Tryz.underlying121 rfl (s := 3) (by kernel_rfl) rfl <| .fieldAddr (off := 0) rfl Tryz.underlying29 rfl (s := 0) (by kernel_rfl) rfl <| .loadX1 (hB.now m0 rfl) rfl rfl Tryz.underlying3 rfl <| .eql rfl rfl <| .nil) ?_
 clear Hz Az; intro Az Hz
 refine bool_cases Hz (t := 14) rfl ?_ ?_
 · intro hb _; exact absurd hb (by simp; omega)
 clear Hz; intro _ Hz
 refine wp_cond_false (Hz.ev (x := .tmp 14) rfl) ?_
 refine wp_skip ?_
 refine hK0 _ _ ?_; clear hK0; try clear K0
 refine wp_seq_k (fun K1 hK1 => ?_)
 replace Hz : Has 39 [(0, _), (1, _), (4, _)] Az := Hz.only [0, 1, 4]
 refine wp_seq_k (fun K2 hK2 => ?_)
 refine wp_region_lit ?_
 refine goCh Hz (.move rfl <| .nilCheck rfl <| .fieldAddr (off := 0) rfl Tryz.underlying123 rfl (s := 4) (by kernel_rfl) rfl <| .move rfl <| .nil) ?_
 clear Hz Az; intro Az Hz
 refine wpList_plain rfl (fun K hK => ?_)
 refine e_call Hz Tryz.func117 rfl rfl rfl rfl (place_no _ _ _ _ _ _ _ _ _ _ (hB.now m0 rfl) (by omega) (by first | omega | (simp; omega) | simp) (by simp; omega)) ?_
 rintro e w20 ⟨rfl, hb20⟩
 have m21 := m0.later hb20
 clear m0
 clear hb20
 refine ⟨_, rfl, ?_⟩; clear Hz Az; intro Az Hz
 refine hK _ _ ?_; clear hK K
 refine goCh Hz (.move rfl <| .extract rfl rfl <| .extract rfl rfl <| .assign rfl <| .assign rfl <| .nil) ?_
 clear Hz Az; intro Az Hz
 refine wpList_nil ?_
 refine hK2 _ _ ?_; clear hK2; try clear K2
 replace Hz : Has 39 [(0, _), (4, _), (5, _), (6, _)] Az := Hz.only [0, 4, 5, 6]
 refine regS Hz (.move rfl <| .nil) ?_
 clear Hz Az; intro Az Hz
 refine wp_cond_false (Hz.ev (x := .tmp 29) rfl) ?_
 refine wp_skip ?_
 refine hK1 _ _ ?_; clear hK1; try clear K1
 refine regS Hz (.assign rfl <| .nil) ?_
 clear Hz Az; intro Az Hz
 refine wp_ret ?_
 try dsimp only [Exit.then, Exit.inBlock]
 refine (ret1 (fn := Tryz.f113) Hz rfl rfl ?_)
 exact ⟨rfl, m21.below⟩
theorem from_some (B : Nat) (bi bt : Int) (cf d : List Int) (es : List (Int × Int × Int × List Int)) (pc pd pl : Option Addr) (cc cd cl : Nat) (w0 : World) (k j : Nat) (i q : Int) (hB : Blk w0 B 123 [.int .i64 bi, .int .i64 bt, .slice pc cf.length cc, .slice pd d.length cd, .slice pl (es.map entD).length cl]) (hl : Rd (fun _ => True) w0 (.slice pl (es.map entD).length cl) (.l 4 (es.map entD))) (hbi : -1000000000000000000 ≤ bi ∧ bi ≤ 1000000000000000000) (hn : es.length ≤ 1000000) (hok : EntsOk es) (hq : 0 < q) (hk0 : (i ≤ bi ∧ k = 0) ∨ i = bi + 1 + k) (hi : i ≤ bi + es.length) (hj : (j : Int) = min q (es.length - k)) :
   Calls Tryz.prog 71 #[.pointer (some ⟨B, 0, none⟩), .int .i64 i, .int .i64 q] w0 fun e w' => ∃ p c, e = .returned (.slice p (((es.drop k).take j).map entD).length c) ∧ Rd (New w0) w' (.slice p (((es.drop k).take j).map entD).length c) (.l 4 (((es.drop k).take j).map entD)) ∧ Below w0.heap.size w0 w' := by
 have hkn : k ≤ es.length := by omega
 have hjl : j ≤ es.length - k := by omega
 refine enter (fn := Tryz.f71) Tryz.func71 rfl Tryz.ntmps71 rfl (fun Az Hz => ?_)
 simp only [List.zipIdx_cons, List.zipIdx_nil, List.map_cons, List.map_nil, Nat.reduceAdd, Nat.zero_add] at Hz
 have m0 := MemOk.start (fun _ => False) w0
 have hcl : es.length ≤ cl := by obtain ⟨pq, cq, hv, hcap⟩ := hl.l_shape; injection hv with _ _ e3; rw [List.length_map] at hcap; omega
 refine regS Hz (.assign rfl <| .nil) ?_
 clear Hz Az; intro Az Hz
 refine wp_seq_k (fun K0 hK0 => ?_)
 refine wp_seq_k (fun K1 hK1 => ?_)
 refine wp_region_lit ?_
 refine goCh Hz (.move rfl <| .leq rfl rfl <| .move rfl <| .nil) ?_
 clear Hz Az; intro Az Hz
 refine bool_cases Hz (t := 12) rfl ?_ ?_
 · intro hb _; exact absurd hb (by first | omega | (simp; omega))
 clear Hz; intro _ Hz
 refine goCh Hz (.moveZ rfl <| .moveZ rfl <| .nilCheckZ rfl <| .fieldAddrZ (off := 0) rfl Tryz.underlying123 rfl (s := 4) (by kernel_rfl) rfl <| .nil) ?_
 clear Hz Az; intro Az Hz
 refine st_ge Hz rfl rfl rfl rfl (fun K hK => ?_)
 refine e_call Hz Tryz.func75 rfl rfl rfl rfl (last_any _ _ _ _ _ _ _ _ _ (hB.now m0 rfl) (by omega) (by first | omega | (simp; omega) | simp)) ?_
 rintro e w13 ⟨rfl, hb13⟩
 have m14 := m0.later hb13
 clear m0
 clear hb13
 refine ⟨_, rfl, ?_⟩; clear Hz Az; intro Az Hz
 refine hK _ _ ?_; clear hK K
 refine goCh Hz (.gtrZ rfl rfl <| .pickF rfl rfl <| .nil) ?_
 clear Hz Az; intro Az Hz
 refine wpList_nil ?_
 refine hK1 _ _ ?_; clear hK1; try clear K1
 refine bool_cases Hz (t := 19) rfl ?_ ?_
 · intro hb _; exact absurd hb (by simp; omega)
 clear Hz; intro _ Hz
 refine wp_cond_false (Hz.ev (x := .tmp 19) rfl) ?_
 refine wp_skip ?_
 refine hK0 _ _ ?_; clear hK0; try clear K0
 replace Hz : Has 42 [(0, _), (1, _), (2, _), (6, _)] Az := Hz.only [0, 1, 2, 6]
 refine wp_seq_k (fun K2 hK2 => ?_)
 refine wp_region_lit ?_
 refine goCh Hz (.move rfl <| .nilCheck rfl <| .fieldAddr (off := 0) rfl Tryz.underlying123 rfl (s := 4) (by kernel_rfl) rfl <| .move rfl <| .nil) ?_
 clear Hz Az; intro Az Hz
 refine wpList_plain rfl (fun K hK => ?_)
 refine e_call Hz Tryz.func117 rfl rfl rfl rfl (place_from _ _ _ _ _ _ _ _ _ k _ (hB.now m14 rfl) (by omega) (by first | omega | (simp; omega) | simp) hk0 (by first | omega | (simp; omega) | simp)) ?_
 rintro e w29 ⟨b29, rfl, hb29⟩
 have m30 := m14.later hb29
 clear m14
 clear hb29
 refine ⟨_, rfl, ?_⟩; clear Hz Az; intro Az Hz
 refine hK _ _ ?_; clear hK K
 refine goCh Hz (.move rfl <| .extract rfl rfl <| .extract rfl rfl <| .assign rfl <| .assign rfl <| .nil) ?_
 clear Hz Az; intro Az Hz
 refine wpList_nil ?_
 refine hK2 _ _ ?_; clear hK2; try clear K2
 replace Hz : Has 42 [(0, _), (2, _), (6, _), (7, _)] Az := Hz.only [0, 2, 6, 7]
 refine wp_seq_k (fun K3 hK3 => ?_)
 refine wp_region_lit ?_
 refine goCh Hz (.move rfl <| .nilCheck rfl <| .fieldAddr (off := 0) rfl Tryz.underlying123 rfl (s := 4) (by kernel_rfl) rfl <| .fieldAddr (off := 4) rfl Tryz.underlying121 rfl (s := 0) (by kernel_rfl) rfl <| .loadX1 (hB.now m30 rfl) rfl rfl Tryz.underlying30 rfl <| .move rfl <| .nil) ?_
 clear Hz Az; intro Az Hz
 have hx51 := hl.dropL k (by first | omega | (simp; omega) | simp)
 refine goCh Hz (.c rfl (fun _ h_ => y_sliceLn h_ k rfl rfl Tryz.underlying30 sz62fr rfl (by first | omega | (simp; omega) | simp)) <| .assign rfl <| .nil) ?_
 clear Hz Az; intro Az Hz
 refine wpList_nil ?_
 refine hK3 _ _ ?_; clear hK3; try clear K3
 replace Hz : Has 42 [(2, _), (6, _), (9, _)] Az := Hz.only [2, 6, 9]
 refine wp_seq_k (fun K4 hK4 => ?_)
 refine wp_region_lit ?_
 refine goCh Hz (.move rfl <| .move rfl <| .move rfl <| .len rfl Tryz.underlying30 <| .c rfl (fun _ h_ => y_min h_ rfl rfl (r := (j : Int)) (by simp; omega)) <| .nil) ?_
 clear Hz Az; intro Az Hz
 have hx66 := hx51.takeL j (by first | omega | (simp; omega) | simp)
 refine goCh Hz (.c rfl (fun _ h_ => y_sliceHn h_ j rfl rfl Tryz.underlying30 sz62fr rfl (by omega)) .nil) ?_
 clear Hz Az; intro Az Hz
 have hy68 := ((hx66.now' m30 rfl).any)
 rw [← List.map_drop, ← List.map_take] at hy68
 refine wpList_plain rfl (fun K hK => ?_)
 refine e_call Hz Tryz.func118 rfl rfl rfl rfl (list_any ((es.drop k).take j) _ _ _ _ hy68 (by first | omega | (simp; omega) | simp) (fun e he => hok e (List.mem_of_mem_drop (List.mem_of_mem_take he)))) ?_
 rintro e w69 ⟨p69, c69, rfl, hd69, hb69⟩
 have m70 := m30.callF 7 rfl hb69 hd69
 clear m30
 clear hb69 hd69
 refine ⟨_, rfl, ?_⟩; clear Hz Az; intro Az Hz
 refine hK _ _ ?_; clear hK K
 refine goCh Hz (.assign rfl .nil) ?_
 clear Hz Az; intro Az Hz
 refine wpList_nil ?_
 refine hK4 _ _ ?_; clear hK4; try clear K4
 refine wp_ret ?_
 try dsimp only [Exit.then, Exit.inBlock]
 refine (ret1 (fn := Tryz.f71) Hz rfl rfl ?_)
 exact ⟨_, _, rfl, m70.outF (i := 7) rfl, m70.below⟩
theorem from_none (B : Nat) (bi bt : Int) (cf d : List Int) (es : List (Int × Int × Int × List Int)) (pc pd pl : Option Addr) (cc cd cl : Nat) (w0 : World) (i q : Int) (hB : Blk w0 B 123 [.int .i64 bi, .int .i64 bt, .slice pc cf.length cc, .slice pd d.length cd, .slice pl (es.map entD).length cl]) (hl : Rd (fun _ => True) w0 (.slice pl (es.map entD).length cl) (.l 4 (es.map entD))) (hbi : -1000000000000000000 ≤ bi ∧ bi ≤ 1000000000000000000) (hn : es.length ≤ 1000000) (hi : q ≤ 0 ∨ bi + es.length < i) :
   Calls Tryz.prog 71 #[.pointer (some ⟨B, 0, none⟩), .int .i64 i, .int .i64 q] w0 fun e w' => e = .returned (.slice none 0 0) ∧ Below w0.heap.size w0 w' := by
 refine enter (fn := Tryz.f71) Tryz.func71 rfl Tryz.ntmps71 rfl (fun Az Hz => ?_)
 simp only [List.zipIdx_cons, List.zipIdx_nil, List.map_cons, List.map_nil, Nat.reduceAdd, Nat.zero_add] at Hz
 have m0 := MemOk.start (fun _ => False) w0
 refine regS Hz (.assign rfl <| .nil) ?_
 clear Hz Az; intro Az Hz
 refine wp_seq_k (fun K0 hK0 => ?_)
 refine wp_seq_k (fun K1 hK1 => ?_)
 refine wp_region_lit ?_
 refine goCh Hz (.move rfl <| .leq rfl rfl <| .move rfl <| .nil) ?_
 clear Hz Az; intro Az Hz
 refine bool_cases Hz (t := 12) rfl ?_ ?_
 ·
  clear Hz; intro hb8 Hz
  try simp only [Q1x, Q2x, Q3x, Q4x, Q5x, Q6x, Q7x, Q8x, Q9x, Q0x, Qax, Qbx] at hb8
  refine goCh Hz (.sk <| .sk <| .sk <| .sk <| .sk <| .sk <| .pickT rfl rfl <| .nil) ?_
  clear Hz Az; intro Az Hz
  refine wpList_nil ?_
  refine hK1 _ _ ?_; clear hK1; try clear K1
  refine wp_cond_true (Hz.ev (x := .tmp 19) rfl) ?_
  replace Hz : Has 42 [(0, _), (1, _), (2, _), (6, _)] Az := Hz.only [0, 1, 2, 6]
  refine regS Hz (.assign rfl <| .nil) ?_
  clear Hz Az; intro Az Hz
  refine wp_ret ?_
  try dsimp only [Exit.then, Exit.inBlock]
  refine (ret1 (fn := Tryz.f71) Hz rfl rfl ?_)
  exact ⟨rfl, m0.below⟩
 ·
  clear Hz; intro hb8 Hz
  try simp only [Q1x, Q2x, Q3x, Q4x, Q5x, Q6x, Q7x, Q8x, Q9x, Q0x, Qax, Qbx] at hb8
  refine goCh Hz (.moveZ rfl <| .moveZ rfl <| .nilCheckZ rfl <| .fieldAddrZ (off := 0) rfl Tryz.underlying123 rfl (s := 4) (by kernel_rfl) rfl <| .nil) ?_
  clear Hz Az; intro Az Hz
  refine st_ge Hz rfl rfl rfl rfl (fun K hK => ?_)
  refine e_call Hz Tryz.func75 rfl rfl rfl rfl (last_any _ _ _ _ _ _ _ _ _ (hB.now m0 rfl) (by omega) (by first | omega | (simp; omega) | simp)) ?_
  rintro e w22 ⟨rfl, hb22⟩
  have m23 := m0.later hb22
  clear m0
  clear hb22
  refine ⟨_, rfl, ?_⟩; clear Hz Az; intro Az Hz
  refine hK _ _ ?_; clear hK K
  refine goCh Hz (.gtrZ rfl rfl <| .pickF rfl rfl <| .nil) ?_
  clear Hz Az; intro Az Hz
  refine wpList_nil ?_
  refine hK1 _ _ ?_; clear hK1; try clear K1
  refine bool_cases Hz (t := 19) rfl ?_ ?_
  rotate_left
  · intro hb _; exact absurd hb (by simp at *; omega)
  clear Hz; intro _ Hz
  refine wp_cond_true (Hz.ev (x := .tmp 19) rfl) ?_
  replace Hz : Has 42 [(0, _), (1, _), (2, _), (6, _)] Az := Hz.only [0, 1, 2, 6]
  refine regS Hz (.assign rfl <| .nil) ?_
  clear Hz Az; intro Az Hz
  refine wp_ret ?_
  try dsimp only [Exit.then, Exit.inBlock]
  refine (ret1 (fn := Tryz.f71) Hz rfl rfl ?_)
  exact ⟨rfl, m23.below⟩
theorem lbase_any (B : Nat) (bi bt : Int) (cf d : List Int) (es : List (Int × Int × Int × List Int)) (pc pd pl : Option Addr) (cc cd cl : Nat) (w0 : World) (hB : Blk w0 B 123 [.int .i64 bi, .int .i64 bt, .slice pc cf.length cc, .slice pd d.length cd, .slice pl (es.map entD).length cl]) (hl : Rd (fun _ => True) w0 (.slice pl (es.map entD).length cl) (.l 4 (es.map entD))) (hbi : -1000000000000000000 ≤ bi ∧ bi ≤ 1000000000000000000) (hn : es.length ≤ 1000000) (hc : Rd (fun _ => True) w0 (.slice pc cf.length cc) (.ns .i64 cf)) (hd : Rd (fun _ => True) w0 (.slice pd d.length cd) (.ns .u8 d)) (hcf : cf.length ≤ 1000000) (hdl : d.length ≤ 140737488351232) :
   Calls Tryz.prog 39 #[.pointer (some ⟨B, 0, none⟩)] w0 fun e w' => ∃ p c q b, e = .returned (.agg #[.int .i64 bi, .int .i64 bt, .slice p cf.length c, .slice q d.length b]) ∧ Rd (New w0) w' (.slice p cf.length c) (.ns .i64 cf) ∧ Rd (New w0) w' (.slice q d.length b) (.ns .u8 d) ∧ Below w0.heap.size w0 w' := by
 refine enter (fn := Tryz.f39) Tryz.func39 rfl Tryz.ntmps39 rfl (fun Az Hz => ?_)
 simp only [List.zipIdx_cons, List.zipIdx_nil, List.map_cons, List.map_nil, Nat.reduceAdd, Nat.zero_add] at Hz
 have m0 := MemOk.start (fun _ => False) w0
 refine wp_seq_k (fun K0 hK0 => ?_)
 refine wp_region_lit ?_
 refine wpList_plain rfl (fun K hK => ?_)
 refine e_alloc Hz m0 5 zc29lb rfl ?_
 clear Hz Az m0; intro g1 Az w2 Hz m2 hB2 hg2
 clear hB2 hg2
 refine hK _ _ ?_; clear hK K
 refine wpList_nil ?_
 refine hK0 _ _ ?_; clear hK0; try clear K0
 refine wp_seq_k (fun K1 hK1 => ?_)
 refine wp_region_lit ?_
 refine goCh Hz (.move rfl <| .nilCheck rfl <| .fieldAddr (off := 0) rfl Tryz.underlying123 rfl (s := 4) (by kernel_rfl) rfl <| .fieldAddr (off := 0) rfl Tryz.underlying121 rfl (s := 3) (by kernel_rfl) rfl <| .loadXR (hB.now m2 rfl) rfl Tryz.underlying29 rfl sz29lb rfl rfl <| .nil) ?_
 clear Hz Az; intro Az Hz
 refine wpList_plain rfl (fun K hK => ?_)
 refine e_call Hz Tryz.func81 rfl rfl rfl rfl (base_any _ _ cf d _ _ _ _ _ ((hc.now' m2 rfl).any) ((hd.now' m2 rfl).any) hcf hdl) ?_
 rintro e w13 ⟨p13, c13, q13, b13, rfl, hc13, hd13, hb13⟩
 have m14 := m2.callFF 6 7 rfl rfl hb13 hc13 hd13
 clear m2
 clear hb13 hc13 hd13
 refine ⟨_, rfl, ?_⟩; clear Hz Az; intro Az Hz
 refine hK _ _ ?_; clear hK K
 refine wpList_plain rfl (fun K hK => ?_)
 refine e_storeW Hz m14 5 rfl rfl rfl rfl rfl sz29lb ?_
 clear m14; intro w16 m16 hB16
 clear hB16
 refine hK _ _ ?_; clear hK K
 refine wpList_nil ?_
 refine hK1 _ _ ?_; clear hK1; try clear K1
 refine wp_ret ?_
 try dsimp only [Exit.then, Exit.inBlock]
 refine (retC (fn := Tryz.f39) Hz m16 (i := 5) rfl rfl rfl Tryz.underlying29 rfl sz29lb ?_)
 exact ⟨_, _, _, _, rfl, m16.outF (i := 6) rfl, m16.outF (i := 7) rfl, m16.below⟩
end
end Go.Proofs.YtndnnlbdnjndiaaGreat.K
