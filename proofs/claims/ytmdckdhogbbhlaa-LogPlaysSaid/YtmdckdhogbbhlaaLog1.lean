/- parts.Plain, Entry, Base, List; rlog.run. -/
import Derived.Test.YtmdckdhogbbhlaaAb14
import Derived.Lib.AppendZerosOnto
namespace Go.Proofs.Ytmdckdhogbbhlaa.K
open Go.ChangeShapes Go.WideShapes Go.ChangeAt Go.RowKit
set_option linter.unusedVariables false
set_option linter.unusedSimpArgs false

theorem inf5pb : (Try.prog.info? 5).map (fun i => (i.zero, i.size, i.bytes)) = some (some (.int .u8 0), 1, 1) := by kernel_rfl
theorem inf3pi : (Try.prog.info? 3).map (fun i => (i.zero, i.size, i.bytes)) = some (some (.int .i64 0), 1, 8) := by kernel_rfl
theorem inf32pe : (Try.prog.info? 32).map (fun i => (i.zero, i.size, i.bytes)) = some (some (.agg #[.int .i64 0, .int .i64 0, .int .i64 0, .slice none 0 0]), 4, 48) := by kernel_rfl
theorem sz23en : (Try.prog.info? 23).map (·.size) = some 1 := by kernel_rfl
theorem sz32en : (Try.prog.info? 32).map (·.size) = some 4 := by kernel_rfl
theorem zc32en : ((Try.prog.info? 32).bind (·.zero)).map (·.cells.toList) = some [.int .i64 0, .int .i64 0, .int .i64 0, .slice none 0 0] := by kernel_rfl
theorem sz23ba : (Try.prog.info? 23).map (·.size) = some 1 := by kernel_rfl
theorem sz26ba : (Try.prog.info? 26).map (·.size) = some 1 := by kernel_rfl
theorem sz28ba : (Try.prog.info? 28).map (·.size) = some 4 := by kernel_rfl
theorem zc28ba : ((Try.prog.info? 28).bind (·.zero)).map (·.cells.toList) = some [.int .i64 0, .int .i64 0, .slice none 0 0, .slice none 0 0] := by kernel_rfl
theorem inf32li : (Try.prog.info? 32).map (fun i => (i.zero, i.size, i.bytes)) = some (some (.agg #[.int .i64 0, .int .i64 0, .int .i64 0, .slice none 0 0]), 4, 48) := by kernel_rfl
theorem sz32li : (Try.prog.info? 32).map (·.size) = some 4 := by kernel_rfl
theorem zc32li : ((Try.prog.info? 32).bind (·.zero)).map (·.cells.toList) = some [.int .i64 0, .int .i64 0, .int .i64 0, .slice none 0 0] := by kernel_rfl
theorem sz32ru : (Try.prog.info? 32).map (·.size) = some 4 := by kernel_rfl
theorem zc32ru : ((Try.prog.info? 32).bind (·.zero)).map (·.cells.toList) = some [.int .i64 0, .int .i64 0, .int .i64 0, .slice none 0 0] := by kernel_rfl

def entD (e : Int × Int × Int × List Int) : List D := [.v (.int .i64 e.1), .v (.int .i64 e.2.1), .v (.int .i64 e.2.2.1), .ns .u8 e.2.2.2]
abbrev e0 : Int × Int × Int × List Int := (0, 0, 0, [])
theorem ent_get {A : List (Int × Int × Int × List Int)} {k : Nat} {i t q : Int} {d : List Int} (h : A[k]? = some (i, t, q, d)) : (A.map entD)[k]? = some [.v (.int .i64 i), .v (.int .i64 t), .v (.int .i64 q), .ns .u8 d] := by simp [h, entD]
def EntsOk (es : List (Int × Int × Int × List Int)) : Prop := ∀ e ∈ es, e.2.2.2.length ≤ 140737488351232
theorem take_snoc {α : Type} {l : List α} {k : Nat} {x : α} (h : l[k]? = some x) : l.take (k + 1) = l.take k ++ [x] := by
  obtain ⟨hk, e⟩ := List.getElem?_eq_some_iff.1 h
  rw [List.take_succ_eq_append_getElem hk, e]
theorem run_snoc {es : List (Int × Int × Int × List Int)} {pv : Int} {k : Nat} {ei et ek : Int} {ed : List Int} (h : ∀ j, j < k → (es.getD j e0).1 = pv + 1 + j) (hes : es[k]? = some (ei, et, ek, ed)) (he : ei = pv + 1 + k) : ∀ j, j < k + 1 → (es.getD j e0).1 = pv + 1 + j := by
  intro j hj
  rcases Nat.lt_or_ge j k with h1 | h1
  · exact h j h1
  · obtain rfl : j = k := by omega
    rw [List.getD, hes]; exact he
theorem run_stop {es : List (Int × Int × Int × List Int)} {pv : Int} {k : Nat} {ei et ek : Int} {ed : List Int} (hes : es[k]? = some (ei, et, ek, ed)) (he : ¬ ei = pv + 1 + k) : ¬ (es.getD k e0).1 = pv + 1 + k := by rw [List.getD, hes]; exact he
theorem rowNil {N : Nat} {S : Nat → Prop} {w : World} {v : Value} {e : TypeId} {k : Nat} (h : w.ownsRow N e k v 0 []) : RowOk N S w v e k [] := ⟨[], by simpa using h, rfl, by simp, by simp, by simp⟩
set_option maxRecDepth 100000
set_option maxHeartbeats 4000000
theorem infoE : (Try.prog.info? 32).map (fun i => (i.zero, i.size, i.bytes)) = some (some (.agg #[.int .i64 0, .int .i64 0, .int .i64 0, .slice none 0 0]), 4, 48) := by kernel_rfl
theorem growE_any (n : Nat) (w : World) (hn : n ≤ 100000000) :
    Calls Try.prog 48 #[.slice none 0 0, .int .i64 n] w fun e w' => ∃ p c, e = .returned (.slice p 0 c) ∧ w'.ownsRow w.heap.size 32 4 (.slice p 0 c) 0 [] ∧ Below w.heap.size w w' := by
  by_cases h0 : n = 0
  · subst h0
    go_enter Try.func48, Try.ntmps48
    go_wp2
    go_ret
    exact ⟨_, _, rfl, World.ownsRow_nil _ _ _ _, Below.refl _ _⟩
  · obtain ⟨i0, hi, hz0, hz1, hz2⟩ := info_parts infoE
    have hbn : n * i0.bytes ≤ 140737488355328 := by rw [hz2]; omega
    obtain ⟨z, hz⟩ : ∃ z : Value, (.agg #[.int .i64 0, .int .i64 0, .int .i64 0, .slice none 0 0]) = z := ⟨_, rfl⟩
    have hzc : z.cells.size = 4 := by rw [← hz]; rfl
    rw [hz] at hz0
    have hrz : ∀ ty, (Builtin.append_ #[29, 3] ty #[.slice none 0 0, .int .i64 (n : Int)]).run Try.prog w =
        .ok (.slice (some ⟨w.heap.size, 0, none⟩) n (grownCap w n 0 32)) (w.drew.alloc (.cells (#[] ++ Builtin.zeroCells z.cells n ++ Builtin.zeroCells z.cells (grownCap w n 0 32 - n)) 32)) := fun ty => by
      have h := Lib.run_append_grow_zeros w 29 3 ty 32 i0 z .i64 .i64 Try.underlying29 Try.underlying3 hi hz0 none 0 0 [] (run_firstCells_none w.drew i0.size 0 0 0) n (by omega) (by omega) (by omega) (by omega) (by omega)
        (by rw [Nat.zero_add]; exact growslice_fits (by omega) hbn)
      rw [Nat.zero_add] at h
      exact h
    have hG := grownCap_ge w n 0 32
    have hM := grownCap_le_maxLen w n 0 32 (by unfold maxLen; omega)
    generalize grownCap w n 0 32 = G at hrz hG hM
    have hown : (w.drew.alloc (.cells (#[] ++ Builtin.zeroCells z.cells n ++ Builtin.zeroCells z.cells (G - n)) 32)).ownsRow w.heap.size 32 4 (.slice (some ⟨w.heap.size, 0, none⟩) 0 G) 0 [] := by
      refine World.ownsRow_made w.drew _ G (Nat.le_refl _) hM ?_
      simp [size_zeroCells, hzc]
      omega
    have hbel : Below w.heap.size w (w.drew.alloc (.cells (#[] ++ Builtin.zeroCells z.cells n ++ Builtin.zeroCells z.cells (G - n)) 32)) := ((Below.refl _ w).drew).alloc (Nat.le_refl _) _
    generalize (w.drew.alloc (.cells (#[] ++ Builtin.zeroCells z.cells n ++ Builtin.zeroCells z.cells (G - n)) 32)) = W' at hrz hown hbel
    have HO := Lib.hid hown
    have HB := Lib.hid hbel
    clear hown hbel hi hz0 hz1 hz2 hz hzc
    unfold maxLen at hM
    go_enter Try.func48, Try.ntmps48
    go_wp2_with (at_builtin; refine Lib.wpList_append_run _ rfl _ _ _ _ rfl _ _ rfl rfl _ _ (hrz _) ?_)
    all_goals (go_ret; exact ⟨_, _, rfl, HO.out, HB.out⟩)
theorem plainB_any (d : List Int) (p0 : Option Addr) (c0 : Nat) (w0 : World) (h0 : Rd (fun _ => True) w0 (.slice p0 d.length c0) (.ns .u8 d)) (hd : d.length ≤ 140737488351232) :
    Calls Try.prog 39 #[.slice p0 d.length c0] w0 fun e w' => ∃ p c, e = .returned (.slice p d.length c) ∧ Rd (New w0) w' (.slice p d.length c) (.ns .u8 d) ∧ Below w0.heap.size w0 w' := by
  refine enter (fn := Try.f39) Try.func39 rfl Try.ntmps39 rfl (fun a0 ha0 => ?_)
  simp only [List.zipIdx_cons, List.zipIdx_nil, List.map_cons, List.map_nil, Nat.reduceAdd, Nat.zero_add] at ha0
  have m0 := MemOk.start (fun _ => False) w0
  refine wp_seq_k (fun K0 hK0 => ?_)
  refine wp_region_lit ?_
  refine st_y ha0 rfl (y_assign ha0 rfl) ?_
  clear ha0 a0; intro a1 ha1
  refine wpList_nil ?_
  refine hK0 _ _ ?_; clear hK0; try clear K0
  refine wp_seq_k (fun K1 hK1 => ?_)
  refine wp_region_lit ?_
  refine st_y ha1 rfl (y_move ha1 rfl) ?_
  clear ha1 a1; intro a2 ha2
  refine wpList_plain rfl (fun K hK => ?_)
  refine e_app0M ha2 m0 2 rfl rfl (h0.now' m0 rfl).ns_out.nums Try.underlying23 inf5pb (by decide) (by omega) rfl ?_
  clear ha2 a2 m0; intro p3 c3 a4 w4 ha4 m4 
  refine hK _ _ ?_; clear hK K
  refine st_y ha4 rfl (y_assign ha4 rfl) ?_
  clear ha4 a4; intro a5 ha5
  refine wpList_nil ?_
  refine hK1 _ _ ?_; clear hK1; try clear K1
  refine wp_ret ?_
  try dsimp only [Exit.then, Exit.inBlock]
  refine (ret1 (fn := Try.f39) ha5 rfl rfl ?_)
  have m6 := m4.freezeN 2 rfl; clear m4
  exact ⟨_, _, rfl, m6.outF (i := 2) rfl, m6.below⟩
theorem plainI_any (d : List Int) (p0 : Option Addr) (c0 : Nat) (w0 : World) (h0 : Rd (fun _ => True) w0 (.slice p0 d.length c0) (.ns .i64 d)) (hd : d.length ≤ 1000000) :
    Calls Try.prog 44 #[.slice p0 d.length c0] w0 fun e w' => ∃ p c, e = .returned (.slice p d.length c) ∧ Rd (New w0) w' (.slice p d.length c) (.ns .i64 d) ∧ Below w0.heap.size w0 w' := by
  refine enter (fn := Try.f44) Try.func44 rfl Try.ntmps44 rfl (fun a0 ha0 => ?_)
  simp only [List.zipIdx_cons, List.zipIdx_nil, List.map_cons, List.map_nil, Nat.reduceAdd, Nat.zero_add] at ha0
  have m0 := MemOk.start (fun _ => False) w0
  refine wp_seq_k (fun K0 hK0 => ?_)
  refine wp_region_lit ?_
  refine st_y ha0 rfl (y_assign ha0 rfl) ?_
  clear ha0 a0; intro a1 ha1
  refine wpList_nil ?_
  refine hK0 _ _ ?_; clear hK0; try clear K0
  refine wp_seq_k (fun K1 hK1 => ?_)
  refine wp_region_lit ?_
  refine st_y ha1 rfl (y_move ha1 rfl) ?_
  clear ha1 a1; intro a2 ha2
  refine wpList_plain rfl (fun K hK => ?_)
  refine e_app0N ha2 m0 2 rfl rfl (h0.now' m0 rfl).ns_out.nums Try.underlying26 inf3pi (by decide) (by omega) rfl ?_
  clear ha2 a2 m0; intro p3 c3 a4 w4 ha4 m4 
  refine hK _ _ ?_; clear hK K
  refine st_y ha4 rfl (y_assign ha4 rfl) ?_
  clear ha4 a4; intro a5 ha5
  refine wpList_nil ?_
  refine hK1 _ _ ?_; clear hK1; try clear K1
  refine wp_ret ?_
  try dsimp only [Exit.then, Exit.inBlock]
  refine (ret1 (fn := Try.f44) ha5 rfl rfl ?_)
  have m6 := m4.freezeN 2 rfl; clear m4
  exact ⟨_, _, rfl, m6.outF (i := 2) rfl, m6.below⟩
theorem plainE_fr (X : Cx) (rows : List (List D)) (v0 : Value) (w0 : World) (hn : rows.length ≤ 1000000) (m0 : MemOk X w0 [(1, .seg v0 32 4 rows)] w0) :
    Calls Try.prog 41 #[v0] w0 fun e w' => ∃ p c, e = .returned (.slice p rows.length c) ∧ MemOk X w0 [(1, .seg v0 32 4 rows), (2, .seg (.slice p rows.length c) 32 4 rows)] w' := by
  refine enter (fn := Try.f41) Try.func41 rfl Try.ntmps41 rfl (fun a0 ha0 => ?_)
  simp only [List.zipIdx_cons, List.zipIdx_nil, List.map_cons, List.map_nil, Nat.reduceAdd, Nat.zero_add] at ha0
  refine wp_seq_k (fun K0 hK0 => ?_)
  refine wp_region_lit ?_
  refine st_y ha0 rfl (y_assign ha0 rfl) ?_
  clear ha0 a0; intro a1 ha1
  refine wpList_nil ?_
  refine hK0 _ _ ?_; clear hK0; try clear K0
  refine wp_seq_k (fun K1 hK1 => ?_)
  refine wp_region_lit ?_
  refine st_y ha1 rfl (y_move ha1 rfl) ?_
  clear ha1 a1; intro a2 ha2
  have m3 := m0.nilS 2 32 4; clear m0
  refine wpList_plain rfl (fun K hK => ?_)
  refine e_appSA ha2 m3 2 rfl rfl rfl (m3.srcS (i := 1) rfl) Try.underlying29 inf32pe rfl rfl (by decide) (by simp; omega) rfl ?_
  clear ha2 a2 m3; intro p4 c4 a5 w5 ha5 m5 
  refine hK _ _ ?_; clear hK K
  refine st_y ha5 rfl (y_assign ha5 rfl) ?_
  clear ha5 a5; intro a6 ha6
  refine wpList_nil ?_
  refine hK1 _ _ ?_; clear hK1; try clear K1
  refine wp_ret ?_
  try dsimp only [Exit.then, Exit.inBlock]
  refine (ret1 (fn := Try.f41) ha6 rfl rfl ?_)
  rw [List.nil_append] at m5
  exact ⟨_, _, rfl, m5.ren [(1, 1), (2, 2)] (by decide)⟩
theorem entry_any (ei et ek : Int) (d : List Int) (p0 : Option Addr) (c0 : Nat) (w0 : World) (h0 : Rd (fun _ => True) w0 (.slice p0 d.length c0) (.ns .u8 d)) (hd : d.length ≤ 140737488351232) :
    Calls Try.prog 38 #[.agg #[.int .i64 ei, .int .i64 et, .int .i64 ek, .slice p0 d.length c0]] w0 fun e w' => ∃ p c, e = .returned (.agg #[.int .i64 ei, .int .i64 et, .int .i64 ek, .slice p d.length c]) ∧ Rd (New w0) w' (.slice p d.length c) (.ns .u8 d) ∧ Below w0.heap.size w0 w' := by
  refine enter (fn := Try.f38) Try.func38 rfl Try.ntmps38 rfl (fun a0 ha0 => ?_)
  simp only [List.zipIdx_cons, List.zipIdx_nil, List.map_cons, List.map_nil, Nat.reduceAdd, Nat.zero_add] at ha0
  have m0 := MemOk.start (fun _ => False) w0
  refine wp_seq_k (fun K0 hK0 => ?_)
  refine wp_region_lit ?_
  refine wpList_plain rfl (fun K hK => ?_)
  refine e_box ha0 m0 2 (cs := [_, _, _, _]) rfl rfl rfl ?_
  clear ha0 a0 m0; intro g1 a2 w2 ha2 m2 hB2 hg2
  clear hB2 hg2
  refine hK _ _ ?_; clear hK K
  refine wpList_plain rfl (fun K hK => ?_)
  refine e_alloc ha2 m2 3 zc32en rfl ?_
  clear ha2 a2 m2; intro g3 a4 w4 ha4 m4 hB4 hg4
  clear hB4 hg4
  refine hK _ _ ?_; clear hK K
  refine wpList_nil ?_
  refine hK0 _ _ ?_; clear hK0; try clear K0
  refine wp_seq_k (fun K1 hK1 => ?_)
  refine wp_region_lit ?_
  refine st_y ha4 rfl (y_fieldAddr ha4 (off := 3) rfl Try.underlying32 rfl (s := 0) (by kernel_rfl) rfl) ?_
  clear ha4 a4; intro a5 ha5
  refine st_y ha5 rfl (y_loadB1 ha5 m4 (i := 2) rfl rfl rfl Try.underlying23 rfl) ?_
  clear ha5 a5; intro a6 ha6
  refine wpList_plain rfl (fun K hK => ?_)
  refine e_call ha6 Try.func39 rfl rfl rfl rfl (plainB_any d _ _ _ ((h0.now' m4 rfl).any) hd) ?_
  rintro e w7 ⟨p7, c7, rfl, hd7, hb7⟩
  have m8 := m4.callF 4 rfl hb7 hd7
  clear m4
  clear hb7 hd7
  refine ⟨_, rfl, fun a9 ha9 => ?_⟩; clear ha6 a6
  refine hK _ _ ?_; clear hK K
  refine st_y ha9 rfl (y_fieldAddr ha9 (off := 3) rfl Try.underlying32 rfl (s := 0) (by kernel_rfl) rfl) ?_
  clear ha9 a9; intro a10 ha10
  refine wpList_plain rfl (fun K hK => ?_)
  refine e_store1 ha10 m8 2 rfl rfl rfl rfl rfl sz23en (by dsimp only [List.set] <;> rfl) ?_
  clear m8; intro w11 m11 hB11
  clear hB11
  refine hK _ _ ?_; clear hK K
  refine wpList_nil ?_
  refine hK1 _ _ ?_; clear hK1; try clear K1
  refine wp_seq_k (fun K2 hK2 => ?_)
  refine wp_region_lit ?_
  refine st_y ha10 rfl (y_loadBR ha10 m11 (i := 2) rfl rfl Try.underlying32 rfl sz32en (by simp) (by dsimp only [List.drop, List.take] <;> rfl)) ?_
  clear ha10 a10; intro a12 ha12
  refine wpList_plain rfl (fun K hK => ?_)
  refine e_storeW ha12 m11 3 rfl rfl rfl rfl rfl sz32en ?_
  clear m11; intro w13 m13 hB13
  clear hB13
  refine hK _ _ ?_; clear hK K
  refine wpList_nil ?_
  refine hK2 _ _ ?_; clear hK2; try clear K2
  refine wp_ret ?_
  try dsimp only [Exit.then, Exit.inBlock]
  refine (retC (fn := Try.f38) ha12 m13 (i := 3) rfl rfl rfl Try.underlying32 rfl sz32en ?_)
  exact ⟨_, _, rfl, m13.outF (i := 4) rfl, m13.below⟩
theorem base_any (bi bt : Int) (cf d : List Int) (pc p0 : Option Addr) (cc c0 : Nat) (w0 : World) (hc : Rd (fun _ => True) w0 (.slice pc cf.length cc) (.ns .i64 cf)) (h0 : Rd (fun _ => True) w0 (.slice p0 d.length c0) (.ns .u8 d)) (hcf : cf.length ≤ 1000000) (hd : d.length ≤ 140737488351232) :
    Calls Try.prog 42 #[.agg #[.int .i64 bi, .int .i64 bt, .slice pc cf.length cc, .slice p0 d.length c0]] w0 fun e w' => ∃ p c q b, e = .returned (.agg #[.int .i64 bi, .int .i64 bt, .slice p cf.length c, .slice q d.length b]) ∧ Rd (New w0) w' (.slice p cf.length c) (.ns .i64 cf) ∧ Rd (New w0) w' (.slice q d.length b) (.ns .u8 d) ∧ Below w0.heap.size w0 w' := by
  refine enter (fn := Try.f42) Try.func42 rfl Try.ntmps42 rfl (fun a0 ha0 => ?_)
  simp only [List.zipIdx_cons, List.zipIdx_nil, List.map_cons, List.map_nil, Nat.reduceAdd, Nat.zero_add] at ha0
  have m0 := MemOk.start (fun _ => False) w0
  refine wp_seq_k (fun K0 hK0 => ?_)
  refine wp_region_lit ?_
  refine wpList_plain rfl (fun K hK => ?_)
  refine e_box ha0 m0 3 (cs := [_, _, _, _]) rfl rfl rfl ?_
  clear ha0 a0 m0; intro g1 a2 w2 ha2 m2 hB2 hg2
  clear hB2 hg2
  refine hK _ _ ?_; clear hK K
  refine wpList_plain rfl (fun K hK => ?_)
  refine e_alloc ha2 m2 4 zc28ba rfl ?_
  clear ha2 a2 m2; intro g3 a4 w4 ha4 m4 hB4 hg4
  clear hB4 hg4
  refine hK _ _ ?_; clear hK K
  refine wpList_nil ?_
  refine hK0 _ _ ?_; clear hK0; try clear K0
  refine wp_seq_k (fun K1 hK1 => ?_)
  have m5 : MemOk _ _ [(3, _), (4, _)] _ := m4.only [3, 4]; clear m4
  refine region_m 7 (B := [(3, _), (4, _)]) (m5.to ⟨.inl rfl, .inl rfl, trivial⟩) m5 (by kernel_rfl) (fun w6 mB6 m6 => ?_); clear m5 mB6
  refine d_y 0 ha4 rfl rfl (fun _ => (m6.to ⟨.inl rfl, .inl rfl, trivial⟩)) (by kernel_rfl) (by kernel_rfl) (by kernel_rfl) (by rfl) (fun _ _ _ h => h) (fun W => y_fieldAddr ha4 (off := 2) rfl Try.underlying28 rfl (s := 0) (by kernel_rfl) rfl) ?_
  clear ha4 a4; intro a7 ha7
  refine d_r 1 ha7 rfl rfl (m6.to ⟨.inl rfl, .inl rfl, trivial⟩) (by kernel_rfl) (by kernel_rfl) (by kernel_rfl) (by kernel_rfl) (by kernel_rfl) (fun _ _ _ h => h) (fun W hW => y_loadB1 ha7 hW (i := 3) rfl rfl rfl Try.underlying26 rfl) ?_
  clear ha7 a7; intro a8 ha8
  refine d_y 3 ha8 rfl rfl (fun _ => (m6.to ⟨.inl rfl, .inl rfl, trivial⟩)) (by kernel_rfl) (by kernel_rfl) (by kernel_rfl) (by rfl) (fun _ _ _ h => h) (fun W => y_fieldAddr ha8 (off := 3) rfl Try.underlying28 rfl (s := 0) (by kernel_rfl) rfl) ?_
  clear ha8 a8; intro a9 ha9
  refine d_r 4 ha9 rfl rfl (m6.to ⟨.inl rfl, .inl rfl, trivial⟩) (by kernel_rfl) (by kernel_rfl) (by kernel_rfl) (by kernel_rfl) (by kernel_rfl) (fun _ _ _ h => h) (fun W hW => y_loadB1 ha9 hW (i := 3) rfl rfl rfl Try.underlying23 rfl) ?_
  clear ha9 a9; intro a10 ha10
  refine stepE_only 2 rfl (by kernel_rfl) rfl (fun K hK => ?_)
  refine e_call ha10 Try.func44 rfl rfl rfl rfl (plainI_any cf _ _ _ ((hc.now' m6 rfl).any) hcf) ?_
  rintro e w11 ⟨p11, c11, rfl, hd11, hb11⟩
  have m12 := m6.callF 5 rfl hb11 hd11
  clear m6
  clear hb11 hd11
  refine ⟨_, rfl, fun a13 ha13 => ?_⟩; clear ha10 a10
  refine hK _ _ (m12.to ⟨.inl rfl, .inl rfl, trivial⟩) ?_; clear hK K
  refine d_y 6 ha13 rfl rfl (fun _ => (m12.to ⟨.inl rfl, .inl rfl, trivial⟩)) (by kernel_rfl) (by kernel_rfl) (by kernel_rfl) (by rfl) (fun _ _ _ h => h) (fun W => y_fieldAddr ha13 (off := 2) rfl Try.underlying28 rfl (s := 0) (by kernel_rfl) rfl) ?_
  clear ha13 a13; intro a14 ha14
  refine stepE_only 5 rfl (by kernel_rfl) rfl (fun K hK => ?_)
  refine e_call ha14 Try.func39 rfl rfl rfl rfl (plainB_any d _ _ _ ((h0.now' m12 rfl).any) hd) ?_
  rintro e w15 ⟨p15, c15, rfl, hd15, hb15⟩
  have m16 := m12.callF 6 rfl hb15 hd15
  clear m12
  clear hb15 hd15
  refine ⟨_, rfl, fun a17 ha17 => ?_⟩; clear ha14 a14
  refine hK _ _ (m16.to ⟨.inl rfl, .inl rfl, trivial⟩) ?_; clear hK K
  refine stepE_end 7 rfl (by kernel_rfl) rfl (by rfl) (fun K hK => ?_)
  refine e_store1 ha17 m16 3 rfl rfl rfl rfl rfl sz26ba (by dsimp only [List.set] <;> rfl) ?_
  clear m16; intro w18 m18 hB18
  clear hB18
  refine hK _ _ ?_; clear hK K
  refine d_y 8 ha17 rfl rfl (fun h => (Bool.false_ne_true (h.symm.trans (by rfl))).elim) (by kernel_rfl) (by kernel_rfl) (by kernel_rfl) (by rfl) (fun _ _ _ h => h) (fun W => y_fieldAddr ha17 (off := 3) rfl Try.underlying28 rfl (s := 0) (by kernel_rfl) rfl) ?_
  clear ha17 a17; intro a19 ha19
  refine stepE_end 9 rfl (by kernel_rfl) rfl (by rfl) (fun K hK => ?_)
  refine e_store1 ha19 m18 3 rfl rfl rfl rfl rfl sz23ba (by dsimp only [List.set] <;> rfl) ?_
  clear m18; intro w20 m20 hB20
  clear hB20
  refine hK _ _ ?_; clear hK K
  refine wpAnyE_done (by kernel_rfl) ?_ _
  refine hK1 _ _ ?_; clear hK1; try clear K1
  refine wp_seq_k (fun K2 hK2 => ?_)
  have ha21 : Has 12 [(1, _), (2, _)] a19 := ha19.only [1, 2]; clear ha19
  refine wp_region_lit ?_
  refine st_y ha21 rfl (y_loadBR ha21 m20 (i := 3) rfl rfl Try.underlying28 rfl sz28ba (by simp) (by dsimp only [List.drop, List.take] <;> rfl)) ?_
  clear ha21 a19; intro a22 ha22
  refine wpList_plain rfl (fun K hK => ?_)
  refine e_storeW ha22 m20 4 rfl rfl rfl rfl rfl sz28ba ?_
  clear m20; intro w23 m23 hB23
  clear hB23
  refine hK _ _ ?_; clear hK K
  refine wpList_nil ?_
  refine hK2 _ _ ?_; clear hK2; try clear K2
  refine wp_ret ?_
  try dsimp only [Exit.then, Exit.inBlock]
  refine (retC (fn := Try.f42) ha22 m23 (i := 4) rfl rfl rfl Try.underlying28 rfl sz28ba ?_)
  exact ⟨_, _, _, _, rfl, m23.outF (i := 5) rfl, m23.outF (i := 6) rfl, m23.below⟩
theorem list_any (es : List (Int × Int × Int × List Int)) (p0 : Option Addr) (c0 nn : Nat) (w0 : World) (h0 : Rd (fun _ => True) w0 (.slice p0 nn c0) (.l 4 (es.map entD))) (hl : es.length ≤ 1000000) (hok : EntsOk es) :
    Calls Try.prog 37 #[.slice p0 nn c0, .func (.func 38) #[] #[]] w0 fun e w' => ∃ p c, e = .returned (.slice p (es.map entD).length c) ∧ Rd (New w0) w' (.slice p (es.map entD).length c) (.l 4 (es.map entD)) ∧ Below w0.heap.size w0 w' := by
  obtain rfl : nn = es.length := by obtain ⟨pq, cq, hv, _⟩ := h0.l_shape; injection hv with _ e2 _; rw [List.length_map] at e2; exact e2
  refine enter (fn := Try.f37) Try.func37 rfl Try.ntmps37 rfl (fun a0 ha0 => ?_)
  simp only [List.zipIdx_cons, List.zipIdx_nil, List.map_cons, List.map_nil, Nat.reduceAdd, Nat.zero_add] at ha0
  have m0 := MemOk.start (fun _ => False) w0
  refine wp_seq_k (fun K0 hK0 => ?_)
  refine wp_region_lit ?_
  refine st_y ha0 rfl (y_assign ha0 rfl) ?_
  clear ha0 a0; intro a1 ha1
  refine wpList_nil ?_
  refine hK0 _ _ ?_; clear hK0; try clear K0
  refine wp_seq_k (fun K1 hK1 => ?_)
  refine wp_region_lit ?_
  refine st_y ha1 rfl (y_move ha1 rfl) ?_
  clear ha1 a1; intro a2 ha2
  refine st_y ha2 rfl (y_len ha2 rfl Try.underlying29) ?_
  clear ha2 a2; intro a3 ha3
  refine wpList_plain rfl (fun K hK => ?_)
  refine e_call ha3 Try.func48 rfl rfl rfl rfl (growE_any _ _ (by omega)) ?_
  rintro e w4 ⟨p4, c4, rfl, ho4, hb4⟩
  have m5 := m0.newR 3 hb4 (rowNil ho4)
  clear m0
  clear hb4 ho4
  refine ⟨_, rfl, fun a6 ha6 => ?_⟩; clear ha3 a3
  refine hK _ _ ?_; clear hK K
  refine st_y ha6 rfl (y_assign ha6 rfl) ?_
  clear ha6 a6; intro a7 ha7
  refine wpList_nil ?_
  refine hK1 _ _ ?_; clear hK1; try clear K1
  refine wp_seq_k (fun K2 hK2 => ?_)
  refine wp_seq_k (fun K3 hK3 => ?_)
  refine wp_region_lit ?_
  refine st_y ha7 rfl (y_move ha7 rfl) ?_
  clear ha7 a7; intro a8 ha8
  refine st_y ha8 rfl (y_len ha8 rfl Try.underlying29) ?_
  clear ha8 a8; intro a9 ha9
  refine st_y ha9 rfl (y_move ha9 rfl) ?_
  clear ha9 a9; intro a10 ha10
  refine wpList_nil ?_
  refine hK3 _ _ ?_; clear hK3; try clear K3
  refine wp_block ?_
  refine wp_loop_ghost (fun g a w => ∃ (k : Nat) (p : Option Addr) (c : Nat), k ≤ es.length ∧ g = es.length - k ∧ Has 25 [(1, .func (.func 38) #[] #[]), (5, .slice p ((es.take k).map entD).length c), (11, .slice p0 es.length c0), (12, .int .i64 es.length), (13, .int .i64 k)] a ∧ MemOk (cn w0) w0 [(3, .row (.slice p ((es.take k).map entD).length c) 32 4 ((es.take k).map entD))] w) (es.length) ?_ ?_
  · exact ⟨0, _, _, Nat.zero_le _, rfl, ha10.only [1, 5, 11, 12, 13], m5.only [3]⟩
  · skip
    clear ha10 m5
    rintro g a11 w11 ⟨k, p, c, hkl, hg, ha11, m11⟩
    refine wp_seq_k (fun K4 hK4 => ?_)
    refine wp_region_lit ?_
    refine st_y ha11 rfl (y_lss ha11 rfl rfl) ?_
    clear ha11 a11; intro a12 ha12
    refine wpList_nil ?_
    refine hK4 _ _ ?_; clear hK4; try clear K4
    refine wp_seq_k (fun K5 hK5 => ?_)
    refine bool_cases ha12 (t := 14) rfl (fun hb13 ha13 => ?_) (fun hb13 ha13 => ?_)
    · skip
      clear ha12
      try simp only [decide_eq_true_eq, decide_eq_false_iff_not, Bool.not_eq_true, Bool.not_eq_false, Bool.not_eq_eq_eq_not, Bool.not_true, Bool.not_false, Bool.not_not, Int.not_lt, Int.not_le, ne_eq, Decidable.not_not] at hb13
      have hk : k < es.length := by omega
      obtain ⟨⟨ei, et, ek, ed⟩, hes⟩ : ∃ e, es[k]? = some e := ⟨_, List.getElem?_eq_getElem hk⟩
      have hed := hok _ (List.mem_of_getElem? hes)
      dsimp only at hed
      refine wp_cond_true (ha13.ev (x := .tmp 14) rfl) ?_
      refine wp_skip ?_
      refine hK5 _ _ ?_; clear hK5; try clear K5
      refine wp_seq_k (fun K6 hK6 => ?_)
      refine wp_block ?_
      refine wp_seq_k (fun K7 hK7 => ?_)
      refine wp_region_lit ?_
      obtain ⟨gx14, ox14, vx14, hp14, hl14, hR14, hrg14⟩ := h0.extA (k) (r := [.v (.int .i64 ei), .v (.int .i64 et), .v (.int .i64 ek), .ns .u8 ed]) (ent_get hes)
      cases hp14; clear hl14
      rcases hR14 with _ | ⟨hd14_0, _ | ⟨hd14_1, _ | ⟨hd14_2, _ | ⟨hd14_3, _ | _⟩⟩⟩⟩
      obtain rfl := hd14_0.v_out
      clear hd14_0
      obtain rfl := hd14_1.v_out
      clear hd14_1
      obtain rfl := hd14_2.v_out
      clear hd14_2
      obtain ⟨p15, c15, hv15, hw15⟩ := hd14_3.ns_shape; subst hv15
      refine st_y ha13 rfl (y_idx ha13 rfl rfl Try.underlying29 sz32li (k) rfl hk) ?_
      clear ha13 a12; intro a16 ha16
      refine st_y ha16 rfl (y_loadAt ha16 (hrg14 m11 rfl) rfl Try.underlying32 rfl sz32li) ?_
      clear ha16 a16; intro a17 ha17
      refine wpList_plain rfl (fun K hK => ?_)
      refine e_alloc ha17 m11 101 zc32li rfl ?_
      clear ha17 a17 m11; intro g18 a19 w19 ha19 m19 hB19 hg19
      clear hB19 hg19
      refine hK _ _ ?_; clear hK K
      refine wpList_plain rfl (fun K hK => ?_)
      refine e_storeW ha19 m19 101 rfl rfl rfl rfl rfl sz32li ?_
      clear m19; intro w20 m20 hB20
      clear hB20
      refine hK _ _ ?_; clear hK K
      refine wpList_nil ?_
      refine hK7 _ _ ?_; clear hK7; try clear K7
      refine wp_region_lit ?_
      refine st_y ha19 rfl (y_move ha19 rfl) ?_
      clear ha19 a19; intro a21 ha21
      refine st_y ha21 rfl (y_move ha21 rfl) ?_
      clear ha21 a21; intro a22 ha22
      refine st_y ha22 rfl (y_loadBR ha22 m20 (i := 101) rfl rfl Try.underlying32 rfl sz32li (by simp) (by dsimp only [List.drop, List.take] <;> rfl)) ?_
      clear ha22 a22; intro a23 ha23
      refine wpList_plain rfl (fun K hK => ?_)
      refine e_callV ha23 rfl Try.func38 rfl rfl rfl rfl (entry_any _ _ _ ed _ _ _ ((hd14_3.now' m20 rfl).any) hed) ?_
      rintro e w24 ⟨p24, c24, rfl, hd24, hb24⟩
      have m25 := m20.callF 102 rfl hb24 hd24
      clear m20
      clear hb24 hd24
      refine ⟨_, rfl, fun a26 ha26 => ?_⟩; clear ha23 a23
      refine hK _ _ ?_; clear hK K
      refine wpList_plain rfl (fun K hK => ?_)
      refine e_litR ha26 m25 103 (mm := 4) rfl (.cons rfl rfl (.cons (.v _) (.cons (.v _) (.cons (.v _) (.cons (m25.rd (i := 102) rfl) .nil)))) <| .nil) Try.underlying29 inf32li rfl rfl rfl rfl rfl ?_
      clear ha26 a26 m25; intro g27 a28 w28 ha28 m28 
      refine hK _ _ ?_; clear hK K
      have m30 := m28.freezeR 103 rfl; clear m28
      refine wpList_plain rfl (fun K hK => ?_)
      refine e_appR ha28 m30 3 rfl rfl rfl (m30.rd (i := 103) rfl) Try.underlying29 inf32li rfl rfl (by decide) (by simp; omega) rfl ?_
      clear ha28 a28 m30; intro p29 c29 a31 w31 ha31 m31 
      refine hK _ _ ?_; clear hK K
      refine st_y ha31 rfl (y_assign ha31 rfl) ?_
      clear ha31 a31; intro a32 ha32
      refine wpList_nil ?_
      refine hK6 _ _ ?_; clear hK6; try clear K6
      have ha33 : Has 25 [(1, _), (5, _), (11, _), (12, _), (13, _)] a32 := ha32.only [1, 5, 11, 12, 13]; clear ha32
      refine wp_region_lit ?_
      refine st_y ha33 rfl (y_add ha33 rfl rfl (r := ((k + 1 : Nat) : Int)) (by rw [IntWalk.i64_in _ (by omega)]; omega)) ?_
      clear ha33 a32; intro a34 ha34
      refine st_y ha34 rfl (y_move ha34 rfl) ?_
      clear ha34 a34; intro a35 ha35
      refine wpList_nil ?_
      show ∃ n', n' < _ ∧ _
      have hE : (es.take k).map entD ++ [[D.v (.int .i64 ei), .v (.int .i64 et), .v (.int .i64 ek), .ns .u8 ed]] = (es.take (k + 1)).map entD := by rw [take_snoc hes, List.map_append]; rfl
      rw [hE] at m31 ha35
      exact ⟨es.length - (k + 1), by omega, k + 1, _, _, by omega, rfl, ha35.only [1, 5, 11, 12, 13], m31.only [3]⟩
    · skip
      clear ha12
      try simp only [decide_eq_true_eq, decide_eq_false_iff_not, Bool.not_eq_true, Bool.not_eq_false, Bool.not_eq_eq_eq_not, Bool.not_true, Bool.not_false, Bool.not_not, Int.not_lt, Int.not_le, ne_eq, Decidable.not_not] at hb13
      obtain rfl : k = es.length := by omega
      refine wp_cond_false (ha13.ev (x := .tmp 14) rfl) ?_
      refine wp_exit ?_
      refine hK2 _ _ ?_; clear hK2; try clear K2
      refine wp_seq_k (fun K8 hK8 => ?_)
      refine wp_region_lit ?_
      refine st_y ha13 rfl (y_move ha13 rfl) ?_
      clear ha13 a12; intro a36 ha36
      refine st_y ha36 rfl (y_assign ha36 rfl) ?_
      clear ha36 a36; intro a37 ha37
      refine wpList_nil ?_
      refine hK8 _ _ ?_; clear hK8; try clear K8
      refine wp_ret ?_
      try dsimp only [Exit.then, Exit.inBlock]
      refine (ret1 (fn := Try.f37) ha37 rfl rfl ?_)
      rw [List.take_length] at *
      have m38 := m11.freezeR 3 rfl; clear m11
      exact ⟨_, _, rfl, m38.outF (i := 3) rfl, m38.below⟩
theorem run_any (pv : Int) (es : List (Int × Int × Int × List Int)) (p0 : Option Addr) (c0 nn : Nat) (w0 : World) (h0 : Rd (fun _ => True) w0 (.slice p0 nn c0) (.l 4 (es.map entD))) (hl : es.length ≤ 1000000) (hp : -2000000000000000000 ≤ pv ∧ pv ≤ 2000000000000000000) :
    Calls Try.prog 34 #[.int .i64 pv, .slice p0 nn c0] w0 fun e w' => ∃ k : Nat, e = .returned (.slice p0 k c0) ∧ k ≤ es.length ∧ (∀ j, j < k → (es.getD j e0).1 = pv + 1 + j) ∧ (k = es.length ∨ (k < es.length ∧ ¬ (es.getD k e0).1 = pv + 1 + k)) ∧ Below w0.heap.size w0 w' := by
  obtain rfl : nn = es.length := by obtain ⟨pq, cq, hv, _⟩ := h0.l_shape; injection hv with _ e2 _; rw [List.length_map] at e2; exact e2
  refine enter (fn := Try.f34) Try.func34 rfl Try.ntmps34 rfl (fun a0 ha0 => ?_)
  simp only [List.zipIdx_cons, List.zipIdx_nil, List.map_cons, List.map_nil, Nat.reduceAdd, Nat.zero_add] at ha0
  have m0 := MemOk.start (fun _ => False) w0
  have hcap : es.length ≤ c0 := by obtain ⟨pq, cq, hv, hcap⟩ := h0.l_shape; injection hv with _ _ e3; rw [List.length_map] at hcap; omega
  refine wp_seq_k (fun K0 hK0 => ?_)
  refine wp_region_lit ?_
  refine st_y ha0 rfl (y_assign ha0 rfl) ?_
  clear ha0 a0; intro a1 ha1
  refine wpList_nil ?_
  refine hK0 _ _ ?_; clear hK0; try clear K0
  refine wp_seq_k (fun K1 hK1 => ?_)
  refine wp_seq_k (fun K2 hK2 => ?_)
  refine wp_region_lit ?_
  refine st_y ha1 rfl (y_move ha1 rfl) ?_
  clear ha1 a1; intro a2 ha2
  refine st_y ha2 rfl (y_len ha2 rfl Try.underlying29) ?_
  clear ha2 a2; intro a3 ha3
  refine st_y ha3 rfl (y_move ha3 rfl) ?_
  clear ha3 a3; intro a4 ha4
  refine wpList_nil ?_
  refine hK2 _ _ ?_; clear hK2; try clear K2
  refine wp_block ?_
  refine wp_loop_ghost (fun g a w => ∃ k : Nat, k ≤ es.length ∧ g = es.length - k ∧ (∀ j, j < k → (es.getD j e0).1 = pv + 1 + j) ∧ Has 26 [(0, .int .i64 pv), (1, .slice p0 es.length c0), (7, .slice p0 es.length c0), (8, .int .i64 es.length), (9, .int .i64 k)] a ∧ MemOk (cn w0) w0 [] w) (es.length) ?_ ?_
  · exact ⟨0, Nat.zero_le _, rfl, (fun j hj => by omega), ha4.only [0, 1, 7, 8, 9], m0.only []⟩
  · skip
    clear ha4 m0
    rintro g a5 w5 ⟨k, hkl, hg, hrun, ha5, m5⟩
    refine wp_seq_k (fun K3 hK3 => ?_)
    refine wp_region_lit ?_
    refine st_y ha5 rfl (y_lss ha5 rfl rfl) ?_
    clear ha5 a5; intro a6 ha6
    refine wpList_nil ?_
    refine hK3 _ _ ?_; clear hK3; try clear K3
    refine wp_seq_k (fun K4 hK4 => ?_)
    refine bool_cases ha6 (t := 10) rfl (fun hb7 ha7 => ?_) (fun hb7 ha7 => ?_)
    · skip
      clear ha6
      try simp only [decide_eq_true_eq, decide_eq_false_iff_not, Bool.not_eq_true, Bool.not_eq_false, Bool.not_eq_eq_eq_not, Bool.not_true, Bool.not_false, Bool.not_not, Int.not_lt, Int.not_le, ne_eq, Decidable.not_not] at hb7
      have hk : k < es.length := by omega
      obtain ⟨⟨ei, et, ek, ed⟩, hes⟩ : ∃ e, es[k]? = some e := ⟨_, List.getElem?_eq_getElem hk⟩
      refine wp_cond_true (ha7.ev (x := .tmp 10) rfl) ?_
      refine wp_skip ?_
      refine hK4 _ _ ?_; clear hK4; try clear K4
      refine wp_seq_k (fun K5 hK5 => ?_)
      refine wp_block ?_
      refine wp_seq_k (fun K6 hK6 => ?_)
      refine wp_region_lit ?_
      refine st_y ha7 rfl (y_move ha7 rfl) ?_
      clear ha7 a6; intro a8 ha8
      obtain ⟨gx9, ox9, vx9, hp9, hl9, hR9, hrg9⟩ := h0.extA (k) (r := [.v (.int .i64 ei), .v (.int .i64 et), .v (.int .i64 ek), .ns .u8 ed]) (ent_get hes)
      cases hp9; clear hl9
      rcases hR9 with _ | ⟨hd9_0, _ | ⟨hd9_1, _ | ⟨hd9_2, _ | ⟨hd9_3, _ | _⟩⟩⟩⟩
      obtain rfl := hd9_0.v_out
      clear hd9_0
      obtain rfl := hd9_1.v_out
      clear hd9_1
      obtain rfl := hd9_2.v_out
      clear hd9_2
      obtain ⟨p10, c10, hv10, hw10⟩ := hd9_3.ns_shape; subst hv10
      refine st_y ha8 rfl (y_idx ha8 rfl rfl Try.underlying29 sz32ru (k) rfl hk) ?_
      clear ha8 a8; intro a11 ha11
      refine st_y ha11 rfl (y_loadAt ha11 (hrg9 m5 rfl) rfl Try.underlying32 rfl sz32ru) ?_
      clear ha11 a11; intro a12 ha12
      refine wpList_plain rfl (fun K hK => ?_)
      refine e_alloc ha12 m5 101 zc32ru rfl ?_
      clear ha12 a12 m5; intro g13 a14 w14 ha14 m14 hB14 hg14
      clear hB14 hg14
      refine hK _ _ ?_; clear hK K
      refine st_y ha14 rfl (y_assign ha14 rfl) ?_
      clear ha14 a14; intro a15 ha15
      refine wpList_plain rfl (fun K hK => ?_)
      refine e_storeW ha15 m14 101 rfl rfl rfl rfl rfl sz32ru ?_
      clear m14; intro w16 m16 hB16
      clear hB16
      refine hK _ _ ?_; clear hK K
      refine wpList_nil ?_
      refine hK6 _ _ ?_; clear hK6; try clear K6
      refine wp_seq_k (fun K7 hK7 => ?_)
      refine wp_region_lit ?_
      refine st_y ha15 rfl (y_fieldAddr ha15 (off := 0) rfl Try.underlying32 rfl (s := 0) (by kernel_rfl) rfl) ?_
      clear ha15 a15; intro a17 ha17
      refine st_y ha17 rfl (y_loadB1 ha17 m16 (i := 101) rfl rfl rfl Try.underlying3 rfl) ?_
      clear ha17 a17; intro a18 ha18
      refine st_y ha18 rfl (y_move ha18 rfl) ?_
      clear ha18 a18; intro a19 ha19
      refine st_y ha19 rfl (y_add ha19 rfl rfl (r := pv + 1) (IntWalk.i64_in _ (by omega))) ?_
      clear ha19 a19; intro a20 ha20
      refine st_y ha20 rfl (y_move ha20 rfl) ?_
      clear ha20 a20; intro a21 ha21
      refine st_y ha21 rfl (y_add ha21 rfl rfl (r := pv + 1 + k) (IntWalk.i64_in _ (by omega))) ?_
      clear ha21 a21; intro a22 ha22
      refine st_y ha22 rfl (y_neq ha22 rfl rfl) ?_
      clear ha22 a22; intro a23 ha23
      refine wpList_nil ?_
      refine hK7 _ _ ?_; clear hK7; try clear K7
      refine bool_cases ha23 (t := 20) rfl (fun hb24 ha24 => ?_) (fun hb24 ha24 => ?_)
      · skip
        clear ha23
        try simp only [decide_eq_true_eq, decide_eq_false_iff_not, Bool.not_eq_true, Bool.not_eq_false, Bool.not_eq_eq_eq_not, Bool.not_true, Bool.not_false, Bool.not_not, Int.not_lt, Int.not_le, ne_eq, Decidable.not_not] at hb24
        refine wp_cond_true (ha24.ev (x := .tmp 20) rfl) ?_
        refine wp_seq_k (fun K8 hK8 => ?_)
        have ha25 : Has 26 [(0, _), (1, _), (7, _), (8, _), (9, _), (5, _), (20, _)] a23 := ha24.only [0, 1, 7, 8, 9, 5, 20]; clear ha24
        refine wp_region_lit ?_
        refine st_y ha25 rfl (y_move ha25 rfl) ?_
        clear ha25 a23; intro a26 ha26
        refine st_y ha26 rfl (y_move ha26 rfl) ?_
        clear ha26 a26; intro a27 ha27
        refine st_y ha27 rfl (y_sliceHn ha27 k rfl rfl Try.underlying29 sz32ru rfl (by omega)) ?_
        clear ha27 a27; intro a28 ha28
        refine st_y ha28 rfl (y_assign ha28 rfl) ?_
        clear ha28 a28; intro a29 ha29
        refine wpList_nil ?_
        refine hK8 _ _ ?_; clear hK8; try clear K8
        refine wp_ret ?_
        try dsimp only [Exit.then, Exit.inBlock]
        refine (ret1 (fn := Try.f34) ha29 rfl rfl ?_)
        exact ⟨k, rfl, hkl, hrun, .inr ⟨hk, run_stop hes (by simpa using hb24)⟩, m16.below⟩
      · skip
        clear ha23
        try simp only [decide_eq_true_eq, decide_eq_false_iff_not, Bool.not_eq_true, Bool.not_eq_false, Bool.not_eq_eq_eq_not, Bool.not_true, Bool.not_false, Bool.not_not, Int.not_lt, Int.not_le, ne_eq, Decidable.not_not] at hb24
        refine wp_cond_false (ha24.ev (x := .tmp 20) rfl) ?_
        refine wp_skip ?_
        refine hK5 _ _ ?_; clear hK5; try clear K5
        have ha30 : Has 26 [(0, _), (1, _), (7, _), (8, _), (9, _), (20, _)] a23 := ha24.only [0, 1, 7, 8, 9, 20]; clear ha24
        refine wp_region_lit ?_
        refine st_y ha30 rfl (y_add ha30 rfl rfl (r := ((k + 1 : Nat) : Int)) (by rw [IntWalk.i64_in _ (by omega)]; omega)) ?_
        clear ha30 a23; intro a31 ha31
        refine st_y ha31 rfl (y_move ha31 rfl) ?_
        clear ha31 a31; intro a32 ha32
        refine wpList_nil ?_
        show ∃ n', n' < _ ∧ _
        exact ⟨es.length - (k + 1), by omega, k + 1, by omega, rfl, run_snoc hrun hes (by simpa using hb24), ha32.only [0, 1, 7, 8, 9], m16.only []⟩
    · skip
      clear ha6
      try simp only [decide_eq_true_eq, decide_eq_false_iff_not, Bool.not_eq_true, Bool.not_eq_false, Bool.not_eq_eq_eq_not, Bool.not_true, Bool.not_false, Bool.not_not, Int.not_lt, Int.not_le, ne_eq, Decidable.not_not] at hb7
      obtain rfl : k = es.length := by omega
      refine wp_cond_false (ha7.ev (x := .tmp 10) rfl) ?_
      refine wp_exit ?_
      refine hK1 _ _ ?_; clear hK1; try clear K1
      refine wp_seq_k (fun K9 hK9 => ?_)
      refine wp_region_lit ?_
      refine st_y ha7 rfl (y_move ha7 rfl) ?_
      clear ha7 a6; intro a33 ha33
      refine st_y ha33 rfl (y_assign ha33 rfl) ?_
      clear ha33 a33; intro a34 ha34
      refine wpList_nil ?_
      refine hK9 _ _ ?_; clear hK9; try clear K9
      refine wp_ret ?_
      try dsimp only [Exit.then, Exit.inBlock]
      refine (ret1 (fn := Try.f34) ha34 rfl rfl ?_)
      exact ⟨es.length, rfl, Nat.le_refl _, hrun, .inl rfl, m5.below⟩
end Go.Proofs.Ytmdckdhogbbhlaa.K
