/- rlog: what writes a log. -/
import Derived.Test.YtmdckdhogbbhlaaLog2
import Derived.Test.YtmdckdhogbbhlaaAb15
namespace Go.Proofs.Ytmdckdhogbbhlaa.K
open Go.ChangeShapes Go.WideShapes Go.ChangeAt Go.RowKit
set_option linter.unusedVariables false
set_option linter.unusedSimpArgs false

theorem sz29cu : (Try.prog.info? 29).map (·.size) = some 1 := by kernel_rfl
theorem sz32cu : (Try.prog.info? 32).map (·.size) = some 4 := by kernel_rfl
theorem inf32gr : (Try.prog.info? 32).map (fun i => (i.zero, i.size, i.bytes)) = some (some (.agg #[.int .i64 0, .int .i64 0, .int .i64 0, .slice none 0 0]), 4, 48) := by kernel_rfl
theorem sz29gr : (Try.prog.info? 29).map (·.size) = some 1 := by kernel_rfl
theorem sz28re : (Try.prog.info? 28).map (·.size) = some 4 := by kernel_rfl
theorem sz29re : (Try.prog.info? 29).map (·.size) = some 1 := by kernel_rfl
theorem ps56nw : placesS Try.prog 56 = some [(0, 5)] := by kernel_rfl
theorem sz28nw : (Try.prog.info? 28).map (·.size) = some 4 := by kernel_rfl
theorem zc56nw : ((Try.prog.info? 56).bind (·.zero)).map (·.cells.toList) = some [.int .i64 0, .int .i64 0, .slice none 0 0, .slice none 0 0, .slice none 0 0] := by kernel_rfl

theorem MemOk.takeS' {w w0 : World} {X : Cx} {M : Mm} (m : MemOk X w0 M w) (i : Nat) {p : Option Addr} {l c mm : Nat} {e : TypeId} {rows : List (List D)} (h : lk M i = some (.seg (.slice p l c) e mm rows)) (rows' : List (List D)) (hr : rows' = rows.take rows'.length) (hj : rows'.length ≤ rows.length) : MemOk X w0 ((i, .seg (.slice p rows'.length c) e mm rows') :: M) w := by
  have := m.takeS i h rows'.length hj
  rwa [← hr] at this
def Run (pv : Int) (ls : List (Int × Int × Int × List Int)) (k : Nat) : Prop := k ≤ ls.length ∧ (∀ j, j < k → (ls.getD j e0).1 = pv + 1 + j) ∧ (k = ls.length ∨ (k < ls.length ∧ ¬ (ls.getD k e0).1 = pv + 1 + k))
def inB (bi : Int) (es : List (Int × Int × Int × List Int)) (i : Int) : Prop := bi < i ∧ i ≤ bi + es.length
instance (bi : Int) (es : List (Int × Int × Int × List Int)) (i : Int) : Decidable (inB bi es i) := by unfold inB; infer_instance
def termL (bi bt : Int) (es : List (Int × Int × Int × List Int)) (i : Int) : Int := if i = bi then bt else if inB bi es i then (es.getD (i - bi - 1).toNat e0).2.1 else -1
def hasB (bi : Int) (es : List (Int × Int × Int × List Int)) (ix tm : Int) : Bool := decide (inB bi es ix ∧ (es.getD (ix - bi - 1).toNat e0).2.1 = tm)
def cutL (bi : Int) (es : List (Int × Int × Int × List Int)) (i : Int) : List (Int × Int × Int × List Int) := if inB bi es i then es.take (i - bi - 1).toNat else es
theorem inB_at {bi : Int} {es : List (Int × Int × Int × List Int)} {i : Int} (h : inB bi es i) : ∃ k : Nat, i = bi + 1 + k ∧ k < es.length ∧ (i - bi - 1).toNat = k ∧ es[k]? = some (es.getD k e0) := by
  unfold inB at h
  refine ⟨(i - bi - 1).toNat, by omega, by omega, rfl, ?_⟩
  have : (i - bi - 1).toNat < es.length := by omega
  rw [List.getD, List.getElem?_eq_getElem this]; rfl
theorem term_any (B : Nat) (bi bt : Int) (cf d : List Int) (es : List (Int × Int × Int × List Int)) (pc pd pl : Option Addr) (cc cd cl : Nat) (w0 : World) (i : Int) (hB : Blk w0 B 56 [.int .i64 bi, .int .i64 bt, .slice pc cf.length cc, .slice pd d.length cd, .slice pl (es.map entD).length cl]) (hl : Rd (fun _ => True) w0 (.slice pl (es.map entD).length cl) (.l 4 (es.map entD))) (hbi : -1000000000000000000 ≤ bi ∧ bi ≤ 1000000000000000000) (hn : es.length ≤ 1000000) :
    Calls Try.prog 26 #[.pointer (some ⟨B, 0, none⟩), .int .i64 i] w0 fun e w' => e = .returned (.int .i64 (termL bi bt es i)) ∧ Below w0.heap.size w0 w' := by
  unfold termL
  by_cases h1 : i = bi
  · subst h1; rw [if_pos rfl]; exact term_at B i bt cf d es pc pd pl cc cd cl w0 hB hl hbi hn
  · rw [if_neg h1]
    by_cases h2 : inB bi es i
    · rw [if_pos h2]
      obtain ⟨k, a1, a2, a3, a4⟩ := inB_at h2
      rw [a3]
      obtain ⟨⟨ei, et, ek, ed⟩, he⟩ : ∃ e, es.getD k e0 = e := ⟨_, rfl⟩
      rw [he] at a4 ⊢
      exact term_in B bi bt cf d es pc pd pl cc cd cl w0 k i hB hl hbi hn a4 a1
    · rw [if_neg h2]
      exact term_out B bi bt cf d es pc pd pl cc cd cl w0 i hB hl hbi hn (by unfold inB at h2; omega)
theorem has_any (B : Nat) (bi bt : Int) (cf d : List Int) (es : List (Int × Int × Int × List Int)) (pc pd pl : Option Addr) (cc cd cl : Nat) (w0 : World) (ix tm kd : Int) (v : Value) (hB : Blk w0 B 56 [.int .i64 bi, .int .i64 bt, .slice pc cf.length cc, .slice pd d.length cd, .slice pl (es.map entD).length cl]) (hl : Rd (fun _ => True) w0 (.slice pl (es.map entD).length cl) (.l 4 (es.map entD))) (hbi : -1000000000000000000 ≤ bi ∧ bi ≤ 1000000000000000000) (hn : es.length ≤ 1000000) :
    Calls Try.prog 35 #[.pointer (some ⟨B, 0, none⟩), .agg #[.int .i64 ix, .int .i64 tm, .int .i64 kd, v]] w0 fun e w' => e = .returned (.bool (hasB bi es ix tm)) ∧ Below w0.heap.size w0 w' := by
  by_cases h2 : inB bi es ix
  · obtain ⟨k, a1, a2, a3, a4⟩ := inB_at h2
    obtain ⟨⟨ei, et, ek, ed⟩, he⟩ : ∃ e, es.getD k e0 = e := ⟨_, rfl⟩
    rw [he] at a4
    have := has_yes B bi bt cf d es pc pd pl cc cd cl w0 k ix tm kd v hB hl hbi hn a4 a1
    rwa [show decide (et = tm) = hasB bi es ix tm from by unfold hasB; rw [a3, he]; simp [h2]] at this
  · have := has_no B bi bt cf d es pc pd pl cc cd cl w0 ix tm kd v hB hl hbi hn (by unfold inB at h2; omega)
    rwa [show false = hasB bi es ix tm from by unfold hasB; simp [h2]] at this
set_option maxRecDepth 100000
set_option maxHeartbeats 4000000
theorem cut_in (X : Cx) (B : Nat) (bi bt : Int) (cf d : List Int) (es : List (Int × Int × Int × List Int)) (pc pd pl : Option Addr) (cc cd cl : Nat) (k : Nat) (i : Int) (w0 : World) (hbi : -1000000000000000000 ≤ bi ∧ bi ≤ 1000000000000000000) (hn : es.length ≤ 1000000) (hk : k < es.length) (hi : i = bi + 1 + k) (m0 : MemOk X w0 [(1, .box B 56 [.int .i64 bi, .int .i64 bt, .slice pc cf.length cc, .slice pd d.length cd, .slice pl (es.map entD).length cl]), (2, .seg (.slice pl (es.map entD).length cl) 32 4 (es.map entD)), (3, .dat (.slice pc cf.length cc) (.ns .i64 cf)), (4, .dat (.slice pd d.length cd) (.ns .u8 d))] w0) :
    Calls Try.prog 36 #[.pointer (some ⟨B, 0, none⟩), .int .i64 i] w0 fun e w' => e = .returned (.tuple #[]) ∧ MemOk X w0 [(1, .box B 56 [.int .i64 bi, .int .i64 bt, .slice pc cf.length cc, .slice pd d.length cd, .slice pl ((es.take k).map entD).length cl]), (2, .seg (.slice pl ((es.take k).map entD).length cl) 32 4 ((es.take k).map entD)), (3, .dat (.slice pc cf.length cc) (.ns .i64 cf)), (4, .dat (.slice pd d.length cd) (.ns .u8 d))] w' := by
  refine enter (fn := Try.f36) Try.func36 rfl Try.ntmps36 rfl (fun a0 ha0 => ?_)
  simp only [List.zipIdx_cons, List.zipIdx_nil, List.map_cons, List.map_nil, Nat.reduceAdd, Nat.zero_add] at ha0
  have hcl := m0.capS (i := 2) rfl
  rw [List.length_map] at hcl
  refine wp_seq_k (fun K0 hK0 => ?_)
  refine wp_region_lit ?_
  refine st_y ha0 rfl (y_move ha0 rfl) ?_
  clear ha0 a0; intro a1 ha1
  refine st_y ha1 rfl (y_move ha1 rfl) ?_
  clear ha1 a1; intro a2 ha2
  refine wpList_plain rfl (fun K hK => ?_)
  refine e_call ha2 Try.func40 rfl rfl rfl rfl (place_yes _ _ _ _ _ _ _ _ _ k _ (m0.ok 1 _ rfl : Res.ok _ _ _ _ (.box _ _ _)).1 (by omega) (by first | omega | (simp; omega) | simp) (by simp; omega) (by omega)) ?_
  rintro e w3 ⟨rfl, hb3⟩
  have m4 := m0.later hb3
  clear m0
  clear hb3
  refine ⟨_, rfl, fun a5 ha5 => ?_⟩; clear ha2 a2
  refine hK _ _ ?_; clear hK K
  refine st_y ha5 rfl (y_move ha5 rfl) ?_
  clear ha5 a5; intro a6 ha6
  refine st_y ha6 rfl (y_extract ha6 rfl rfl) ?_
  clear ha6 a6; intro a7 ha7
  refine st_y ha7 rfl (y_extract ha7 rfl rfl) ?_
  clear ha7 a7; intro a8 ha8
  refine st_y ha8 rfl (y_assign ha8 rfl) ?_
  clear ha8 a8; intro a9 ha9
  refine st_y ha9 rfl (y_assign ha9 rfl) ?_
  clear ha9 a9; intro a10 ha10
  refine wpList_nil ?_
  refine hK0 _ _ ?_; clear hK0; try clear K0
  refine wp_seq_k (fun K1 hK1 => ?_)
  have ha11 : Has 22 [(0, _), (4, _), (5, _)] a10 := ha10.only [0, 4, 5]; clear ha10
  refine wp_region_lit ?_
  refine st_y ha11 rfl (y_move ha11 rfl) ?_
  clear ha11 a10; intro a12 ha12
  refine wpList_nil ?_
  refine hK1 _ _ ?_; clear hK1; try clear K1
  refine wp_cond_true (ha12.ev (x := .tmp 12) rfl) ?_
  refine wp_region_lit ?_
  refine st_y ha12 rfl (y_move ha12 rfl) ?_
  clear ha12 a12; intro a13 ha13
  refine st_y ha13 rfl (y_move ha13 rfl) ?_
  clear ha13 a13; intro a14 ha14
  refine st_y ha14 rfl (y_nilCheck ha14 rfl) ?_
  clear ha14 a14; intro a15 ha15
  refine st_y ha15 rfl (y_fieldAddr ha15 (off := 4) rfl Try.underlying54 rfl (s := 0) (by kernel_rfl) rfl) ?_
  clear ha15 a15; intro a16 ha16
  refine st_y ha16 rfl (y_loadB1 ha16 m4 (i := 1) rfl rfl rfl Try.underlying29 rfl) ?_
  clear ha16 a16; intro a17 ha17
  refine st_y ha17 rfl (y_move ha17 rfl) ?_
  clear ha17 a17; intro a18 ha18
  have m19 := m4.takeS' 2 rfl ((es.take k).map entD) (by rw [List.map_take, List.length_take, List.length_map]; congr 1; omega) (by simp; omega); clear m4
  refine st_y ha18 rfl (y_sliceHn ha18 ((es.take k).map entD).length rfl rfl Try.underlying29 sz32cu (by simp; omega) (by simp; omega)) ?_
  clear ha18 a18; intro a20 ha20
  refine st_y ha20 rfl (y_nilCheck ha20 rfl) ?_
  clear ha20 a20; intro a21 ha21
  refine st_y ha21 rfl (y_fieldAddr ha21 (off := 4) rfl Try.underlying54 rfl (s := 0) (by kernel_rfl) rfl) ?_
  clear ha21 a21; intro a22 ha22
  refine wpList_plain rfl (fun K hK => ?_)
  refine e_store1 ha22 m19 1 rfl rfl rfl rfl rfl sz29cu (by dsimp only [List.set] <;> rfl) ?_
  clear m19; intro w23 m23 hB23
  clear hB23
  refine hK _ _ ?_; clear hK K
  refine wpList_nil ?_
  try dsimp only [Exit.then]
  try refine out_here ?_
  refine (ret0 (fn := Try.f36) ha22 rfl ?_)
  exact ⟨rfl, m23.only [1, 2, 3, 4]⟩
theorem cut_out (X : Cx) (B : Nat) (bi bt : Int) (cf d : List Int) (es : List (Int × Int × Int × List Int)) (pc pd pl : Option Addr) (cc cd cl : Nat) (i : Int) (w0 : World) (hbi : -1000000000000000000 ≤ bi ∧ bi ≤ 1000000000000000000) (hn : es.length ≤ 1000000) (hi : i ≤ bi ∨ bi + es.length < i) (m0 : MemOk X w0 [(1, .box B 56 [.int .i64 bi, .int .i64 bt, .slice pc cf.length cc, .slice pd d.length cd, .slice pl (es.map entD).length cl]), (2, .seg (.slice pl (es.map entD).length cl) 32 4 (es.map entD)), (3, .dat (.slice pc cf.length cc) (.ns .i64 cf)), (4, .dat (.slice pd d.length cd) (.ns .u8 d))] w0) :
    Calls Try.prog 36 #[.pointer (some ⟨B, 0, none⟩), .int .i64 i] w0 fun e w' => e = .returned (.tuple #[]) ∧ MemOk X w0 [(1, .box B 56 [.int .i64 bi, .int .i64 bt, .slice pc cf.length cc, .slice pd d.length cd, .slice pl (es.map entD).length cl]), (2, .seg (.slice pl (es.map entD).length cl) 32 4 (es.map entD)), (3, .dat (.slice pc cf.length cc) (.ns .i64 cf)), (4, .dat (.slice pd d.length cd) (.ns .u8 d))] w' := by
  refine enter (fn := Try.f36) Try.func36 rfl Try.ntmps36 rfl (fun a0 ha0 => ?_)
  simp only [List.zipIdx_cons, List.zipIdx_nil, List.map_cons, List.map_nil, Nat.reduceAdd, Nat.zero_add] at ha0
  have hcl := m0.capS (i := 2) rfl
  rw [List.length_map] at hcl
  refine wp_seq_k (fun K0 hK0 => ?_)
  refine wp_region_lit ?_
  refine st_y ha0 rfl (y_move ha0 rfl) ?_
  clear ha0 a0; intro a1 ha1
  refine st_y ha1 rfl (y_move ha1 rfl) ?_
  clear ha1 a1; intro a2 ha2
  refine wpList_plain rfl (fun K hK => ?_)
  refine e_call ha2 Try.func40 rfl rfl rfl rfl (place_no _ _ _ _ _ _ _ _ _ _ (m0.ok 1 _ rfl : Res.ok _ _ _ _ (.box _ _ _)).1 (by omega) (by first | omega | (simp; omega) | simp) (by simp; omega)) ?_
  rintro e w3 ⟨rfl, hb3⟩
  have m4 := m0.later hb3
  clear m0
  clear hb3
  refine ⟨_, rfl, fun a5 ha5 => ?_⟩; clear ha2 a2
  refine hK _ _ ?_; clear hK K
  refine st_y ha5 rfl (y_move ha5 rfl) ?_
  clear ha5 a5; intro a6 ha6
  refine st_y ha6 rfl (y_extract ha6 rfl rfl) ?_
  clear ha6 a6; intro a7 ha7
  refine st_y ha7 rfl (y_extract ha7 rfl rfl) ?_
  clear ha7 a7; intro a8 ha8
  refine st_y ha8 rfl (y_assign ha8 rfl) ?_
  clear ha8 a8; intro a9 ha9
  refine st_y ha9 rfl (y_assign ha9 rfl) ?_
  clear ha9 a9; intro a10 ha10
  refine wpList_nil ?_
  refine hK0 _ _ ?_; clear hK0; try clear K0
  refine wp_seq_k (fun K1 hK1 => ?_)
  have ha11 : Has 22 [(0, _), (4, _), (5, _)] a10 := ha10.only [0, 4, 5]; clear ha10
  refine wp_region_lit ?_
  refine st_y ha11 rfl (y_move ha11 rfl) ?_
  clear ha11 a10; intro a12 ha12
  refine wpList_nil ?_
  refine hK1 _ _ ?_; clear hK1; try clear K1
  refine wp_cond_false (ha12.ev (x := .tmp 12) rfl) ?_
  refine wp_skip ?_
  try dsimp only [Exit.then]
  try refine out_here ?_
  refine (ret0 (fn := Try.f36) ha12 rfl ?_)
  exact ⟨rfl, m4.only [1, 2, 3, 4]⟩
theorem cut_any (X : Cx) (B : Nat) (bi bt : Int) (cf d : List Int) (es : List (Int × Int × Int × List Int)) (pc pd pl : Option Addr) (cc cd cl : Nat) (i : Int) (w0 : World) (hbi : -1000000000000000000 ≤ bi ∧ bi ≤ 1000000000000000000) (hn : es.length ≤ 1000000) (m0 : MemOk X w0 [(1, .box B 56 [.int .i64 bi, .int .i64 bt, .slice pc cf.length cc, .slice pd d.length cd, .slice pl (es.map entD).length cl]), (2, .seg (.slice pl (es.map entD).length cl) 32 4 (es.map entD)), (3, .dat (.slice pc cf.length cc) (.ns .i64 cf)), (4, .dat (.slice pd d.length cd) (.ns .u8 d))] w0) :
    Calls Try.prog 36 #[.pointer (some ⟨B, 0, none⟩), .int .i64 i] w0 fun e w' => e = .returned (.tuple #[]) ∧ MemOk X w0 [(1, .box B 56 [.int .i64 bi, .int .i64 bt, .slice pc cf.length cc, .slice pd d.length cd, .slice pl ((cutL bi es i).map entD).length cl]), (2, .seg (.slice pl ((cutL bi es i).map entD).length cl) 32 4 ((cutL bi es i).map entD)), (3, .dat (.slice pc cf.length cc) (.ns .i64 cf)), (4, .dat (.slice pd d.length cd) (.ns .u8 d))] w' := by
  unfold cutL
  by_cases h2 : inB bi es i
  · obtain ⟨k, a1, a2, a3, a4⟩ := inB_at h2
    rw [if_pos h2, a3]
    exact cut_in X B bi bt cf d es pc pd pl cc cd cl k i w0 hbi hn a2 a1 m0
  · rw [if_neg h2]
    exact cut_out X B bi bt cf d es pc pd pl cc cd cl i w0 hbi hn (by unfold inB at h2; omega) m0
theorem grow_fr (X : Cx) (B : Nat) (bi bt : Int) (cf d : List Int) (es ls : List (Int × Int × Int × List Int)) (pc pd pl pa : Option Addr) (cc cd cl ca nn : Nat) (w0 : World) (hbi : -1000000000000000000 ≤ bi ∧ bi ≤ 1000000000000000000) (hn : es.length + ls.length ≤ 1000000) (hok : EntsOk ls) (m0 : MemOk X w0 [(1, .box B 56 [.int .i64 bi, .int .i64 bt, .slice pc cf.length cc, .slice pd d.length cd, .slice pl (es.map entD).length cl]), (2, .seg (.slice pl (es.map entD).length cl) 32 4 (es.map entD)), (3, .dat (.slice pc cf.length cc) (.ns .i64 cf)), (4, .dat (.slice pd d.length cd) (.ns .u8 d)), (5, .dat (.slice pa nn ca) (.l 4 (ls.map entD)))] w0) :
    Calls Try.prog 31 #[.pointer (some ⟨B, 0, none⟩), .slice pa nn ca] w0 fun e w' => ∃ (k : Nat) (pl' : Option Addr) (cl' : Nat), e = .returned (.tuple #[]) ∧ Run (bi + es.length) ls k ∧ MemOk X w0 [(1, .box B 56 [.int .i64 bi, .int .i64 bt, .slice pc cf.length cc, .slice pd d.length cd, .slice pl' ((es ++ ls.take k).map entD).length cl']), (2, .seg (.slice pl' ((es ++ ls.take k).map entD).length cl') 32 4 ((es ++ ls.take k).map entD)), (3, .dat (.slice pc cf.length cc) (.ns .i64 cf)), (4, .dat (.slice pd d.length cd) (.ns .u8 d))] w' := by
  refine enter (fn := Try.f31) Try.func31 rfl Try.ntmps31 rfl (fun a0 ha0 => ?_)
  simp only [List.zipIdx_cons, List.zipIdx_nil, List.map_cons, List.map_nil, Nat.reduceAdd, Nat.zero_add] at ha0
  have m1 : MemOk _ _ [(1, _), (2, _), (3, _), (4, _), (5, _)] _ := m0.only [1, 2, 3, 4, 5]; clear m0
  refine region_m 10 (B := [(1, _), (2, _), (3, _), (4, _), (5, _)]) (m1.to ⟨.inl rfl, .inl rfl, .inl rfl, .inl rfl, .inl rfl, trivial⟩) m1 (by kernel_rfl) (fun w2 mB2 m2 => ?_); clear m1 mB2
  refine d_y 0 ha0 rfl rfl (fun _ => (m2.to ⟨.inl rfl, .inl rfl, .inl rfl, .inl rfl, .inl rfl, trivial⟩)) (by kernel_rfl) (by kernel_rfl) (by kernel_rfl) (by rfl) (fun _ _ _ h => h) (fun W => y_move ha0 rfl) ?_
  clear ha0 a0; intro a3 ha3
  refine d_y 1 ha3 rfl rfl (fun _ => (m2.to ⟨.inl rfl, .inl rfl, .inl rfl, .inl rfl, .inl rfl, trivial⟩)) (by kernel_rfl) (by kernel_rfl) (by kernel_rfl) (by rfl) (fun _ _ _ h => h) (fun W => y_move ha3 rfl) ?_
  clear ha3 a3; intro a4 ha4
  refine d_y 2 ha4 rfl rfl (fun _ => (m2.to ⟨.inl rfl, .inl rfl, .inl rfl, .inl rfl, .inl rfl, trivial⟩)) (by kernel_rfl) (by kernel_rfl) (by kernel_rfl) (by rfl) (fun _ _ _ h => h) (fun W => y_nilCheck ha4 rfl) ?_
  clear ha4 a4; intro a5 ha5
  refine d_y 3 ha5 rfl rfl (fun _ => (m2.to ⟨.inl rfl, .inl rfl, .inl rfl, .inl rfl, .inl rfl, trivial⟩)) (by kernel_rfl) (by kernel_rfl) (by kernel_rfl) (by rfl) (fun _ _ _ h => h) (fun W => y_fieldAddr ha5 (off := 4) rfl Try.underlying54 rfl (s := 0) (by kernel_rfl) rfl) ?_
  clear ha5 a5; intro a6 ha6
  refine d_r 4 ha6 rfl rfl (m2.to ⟨.inl rfl, .inl rfl, .inl rfl, .inl rfl, .inl rfl, trivial⟩) (by kernel_rfl) (by kernel_rfl) (by kernel_rfl) (by kernel_rfl) (by kernel_rfl) (fun _ _ _ h => h) (fun W hW => y_loadB1 ha6 hW (i := 1) rfl rfl rfl Try.underlying29 rfl) ?_
  clear ha6 a6; intro a7 ha7
  refine d_y 5 ha7 rfl rfl (fun _ => (m2.to ⟨.inl rfl, .inl rfl, .inl rfl, .inl rfl, .inl rfl, trivial⟩)) (by kernel_rfl) (by kernel_rfl) (by kernel_rfl) (by rfl) (fun _ _ _ h => h) (fun W => y_move ha7 rfl) ?_
  clear ha7 a7; intro a8 ha8
  refine d_y 7 ha8 rfl rfl (fun _ => (m2.to ⟨.inl rfl, .inl rfl, .inl rfl, .inl rfl, .inl rfl, trivial⟩)) (by kernel_rfl) (by kernel_rfl) (by kernel_rfl) (by rfl) (fun _ _ _ h => h) (fun W => y_move ha8 rfl) ?_
  clear ha8 a8; intro a9 ha9
  refine stepE_only 6 rfl (by kernel_rfl) rfl (fun K hK => ?_)
  refine e_call ha9 Try.func25 rfl rfl rfl rfl (last_any _ _ _ _ _ _ _ _ _ (m2.ok 1 _ rfl : Res.ok _ _ _ _ (.box _ _ _)).1 (by omega) (by first | omega | (simp; omega) | simp)) ?_
  rintro e w10 ⟨rfl, hb10⟩
  have m11 := m2.later hb10
  clear m2
  clear hb10
  refine ⟨_, rfl, fun a12 ha12 => ?_⟩; clear ha9 a9
  refine hK _ _ (m11.to ⟨.inl rfl, .inl rfl, .inl rfl, .inl rfl, .inl rfl, trivial⟩) ?_; clear hK K
  refine stepE_only 8 rfl (by kernel_rfl) rfl (fun K hK => ?_)
  refine e_call ha12 Try.func34 rfl rfl rfl rfl (run_any _ ls _ _ _ _ (m11.rd (i := 5) rfl).any (by omega) (by first | omega | (simp; omega))) ?_
  rintro e w14 ⟨k, rfl, hk1, hk2, hk3, hb14⟩
  try rw [List.length_map] at hk2 hk3
  have m15 := m11.later hb14
  clear m11
  have m16 := m15.takeR (i := 5) rfl k (by simp; omega) 6 rfl
  clear m15
  rw [← List.map_take] at m16
  clear hb14
  refine ⟨_, rfl, fun a17 ha17 => ?_⟩; clear ha12 a12
  refine hK _ _ (m16.to ⟨.inl rfl, .inl rfl, .inl rfl, .inl rfl, .inl rfl, trivial⟩) ?_; clear hK K
  refine stepE_only 9 rfl (by kernel_rfl) rfl (fun K hK => ?_)
  refine e_call ha17 Try.func37 rfl rfl rfl rfl (list_any (ls.take k) _ _ _ _ ((m16.rd (i := 6) rfl).any) (by simp; omega) (fun e he => hok e (List.mem_of_mem_take he))) ?_
  rintro e w18 ⟨p18, c18, rfl, hd18, hb18⟩
  have m19 := m16.callF 7 rfl hb18 hd18
  clear m16
  clear hb18 hd18
  refine ⟨_, rfl, fun a20 ha20 => ?_⟩; clear ha17 a17
  refine hK _ _ (m19.to ⟨.inl rfl, .inl rfl, .inl rfl, .inl rfl, .inl rfl, trivial⟩) ?_; clear hK K
  refine stepE_end 10 rfl (by kernel_rfl) rfl (by rfl) (fun K hK => ?_)
  refine e_appSA ha20 m19 2 rfl rfl rfl (m19.rd (i := 7) rfl).cells Try.underlying29 inf32gr rfl rfl (by decide) (by simp; omega) rfl ?_
  clear ha20 a20 m19; intro p21 c21 a22 w22 ha22 m22 
  refine hK _ _ ?_; clear hK K
  refine d_y 11 ha22 rfl rfl (fun h => (Bool.false_ne_true (h.symm.trans (by rfl))).elim) (by kernel_rfl) (by kernel_rfl) (by kernel_rfl) (by rfl) (fun _ _ _ h => h) (fun W => y_nilCheck ha22 rfl) ?_
  clear ha22 a22; intro a23 ha23
  refine d_y 12 ha23 rfl rfl (fun h => (Bool.false_ne_true (h.symm.trans (by rfl))).elim) (by kernel_rfl) (by kernel_rfl) (by kernel_rfl) (by rfl) (fun _ _ _ h => h) (fun W => y_fieldAddr ha23 (off := 4) rfl Try.underlying54 rfl (s := 0) (by kernel_rfl) rfl) ?_
  clear ha23 a23; intro a24 ha24
  refine stepE_end 13 rfl (by kernel_rfl) rfl (by rfl) (fun K hK => ?_)
  refine e_store1 ha24 m22 1 rfl rfl rfl rfl rfl sz29gr (by dsimp only [List.set] <;> rfl) ?_
  clear m22; intro w25 m25 hB25
  clear hB25
  refine hK _ _ ?_; clear hK K
  refine wpAnyE_done (by kernel_rfl) ?_ _
  try dsimp only [Exit.then]
  try refine out_here ?_
  refine (ret0 (fn := Try.f31) ha24 rfl ?_)
  rw [← List.map_append] at m25
  exact ⟨k, _, _, rfl, ⟨hk1, hk2, hk3⟩, m25.only [1, 2, 3, 4]⟩
theorem reset_fr (X : Cx) (B : Nat) (x0 x1 x2 x3 x4 : Value) (w0 : World) (bi bt : Int) (cf d : List Int) (pc pd : Option Addr) (cc cd : Nat) (hcf : cf.length ≤ 1000000) (hdl : d.length ≤ 140737488351232) (m0 : MemOk X w0 [(1, .box B 56 [x0, x1, x2, x3, x4]), (5, .dat (.slice pc cf.length cc) (.ns .i64 cf)), (6, .dat (.slice pd d.length cd) (.ns .u8 d))] w0) :
    Calls Try.prog 22 #[.pointer (some ⟨B, 0, none⟩), .agg #[.int .i64 bi, .int .i64 bt, .slice pc cf.length cc, .slice pd d.length cd]] w0 fun e w' => ∃ (pc' : Option Addr) (cc' : Nat) (pd' : Option Addr) (cd' : Nat), e = .returned (.tuple #[]) ∧ MemOk X w0 [(1, .box B 56 [.int .i64 bi, .int .i64 bt, .slice pc' cf.length cc', .slice pd' d.length cd', .slice none (([] : List (Int × Int × Int × List Int)).map entD).length 0]), (2, .seg (.slice none (([] : List (Int × Int × Int × List Int)).map entD).length 0) 32 4 (([] : List (Int × Int × Int × List Int)).map entD)), (3, .dat (.slice pc' cf.length cc') (.ns .i64 cf)), (4, .dat (.slice pd' d.length cd') (.ns .u8 d))] w' := by
  refine enter (fn := Try.f22) Try.func22 rfl Try.ntmps22 rfl (fun a0 ha0 => ?_)
  simp only [List.zipIdx_cons, List.zipIdx_nil, List.map_cons, List.map_nil, Nat.reduceAdd, Nat.zero_add] at ha0
  refine wp_seq_k (fun K0 hK0 => ?_)
  refine wp_region_lit ?_
  refine wpList_plain rfl (fun K hK => ?_)
  refine e_box ha0 m0 7 (cs := [_, _, _, _]) rfl rfl rfl ?_
  clear ha0 a0 m0; intro g1 a2 w2 ha2 m2 hB2 hg2
  clear hB2 hg2
  refine hK _ _ ?_; clear hK K
  refine wpList_nil ?_
  refine hK0 _ _ ?_; clear hK0; try clear K0
  refine wp_region_lit ?_
  refine st_y ha2 rfl (y_move ha2 rfl) ?_
  clear ha2 a2; intro a3 ha3
  refine st_y ha3 rfl (y_move ha3 rfl) ?_
  clear ha3 a3; intro a4 ha4
  refine st_y ha4 rfl (y_loadBR ha4 m2 (i := 7) rfl rfl Try.underlying28 rfl sz28re (by simp) (by dsimp only [List.drop, List.take] <;> rfl)) ?_
  clear ha4 a4; intro a5 ha5
  refine wpList_plain rfl (fun K hK => ?_)
  refine e_call ha5 Try.func42 rfl rfl rfl rfl (base_any _ _ cf d _ _ _ _ _ ((m2.rd (i := 5) rfl).any) ((m2.rd (i := 6) rfl).any) hcf hdl) ?_
  rintro e w6 ⟨p6, c6, q6, b6, rfl, hc6, hd6, hb6⟩
  have m7 := m2.callFF 8 9 rfl rfl hb6 hc6 hd6
  clear m2
  clear hb6 hc6 hd6
  refine ⟨_, rfl, fun a8 ha8 => ?_⟩; clear ha5 a5
  refine hK _ _ ?_; clear hK K
  refine st_y ha8 rfl (y_nilCheck ha8 rfl) ?_
  clear ha8 a8; intro a9 ha9
  refine st_y ha9 rfl (y_fieldAddr ha9 (off := 0) rfl Try.underlying56 rfl (s := 4) (by kernel_rfl) rfl) ?_
  clear ha9 a9; intro a10 ha10
  refine st_y ha10 rfl (y_fieldAddr ha10 (off := 0) rfl Try.underlying54 rfl (s := 3) (by kernel_rfl) rfl) ?_
  clear ha10 a10; intro a11 ha11
  refine wpList_plain rfl (fun K hK => ?_)
  refine e_storeR ha11 m7 1 rfl rfl rfl rfl rfl sz28re (by dsimp only [List.take, List.drop, List.append_eq, List.append] <;> rfl) ?_
  clear m7; intro w12 m12 hB12
  clear hB12
  refine hK _ _ ?_; clear hK K
  refine st_y ha11 rfl (y_nilCheck ha11 rfl) ?_
  clear ha11 a11; intro a13 ha13
  refine st_y ha13 rfl (y_fieldAddr ha13 (off := 0) rfl Try.underlying56 rfl (s := 4) (by kernel_rfl) rfl) ?_
  clear ha13 a13; intro a14 ha14
  refine st_y ha14 rfl (y_fieldAddr ha14 (off := 4) rfl Try.underlying54 rfl (s := 0) (by kernel_rfl) rfl) ?_
  clear ha14 a14; intro a15 ha15
  refine wpList_plain rfl (fun K hK => ?_)
  refine e_store1 ha15 m12 1 rfl rfl rfl rfl rfl sz29re (by dsimp only [List.set] <;> rfl) ?_
  clear m12; intro w16 m16 hB16
  clear hB16
  refine hK _ _ ?_; clear hK K
  refine wpList_nil ?_
  try dsimp only [Exit.then]
  try refine out_here ?_
  refine (ret0 (fn := Try.f22) ha15 rfl ?_)
  have m17 := m16.nilS 2 32 4; clear m16
  exact ⟨_, _, _, _, rfl, m17.ren [(1, 1), (2, 2), (3, 8), (4, 9)] (by decide)⟩
theorem new_fr (X : Cx) (bi bt : Int) (cf d : List Int) (ls : List (Int × Int × Int × List Int)) (pc pd pa : Option Addr) (cc cd ca nn : Nat) (w0 : World) (hbi : -1000000000000000000 ≤ bi ∧ bi ≤ 1000000000000000000) (hcf : cf.length ≤ 1000000) (hdl : d.length ≤ 140737488351232) (hn : ls.length ≤ 1000000) (hok : EntsOk ls) (m0 : MemOk X w0 [(5, .dat (.slice pc cf.length cc) (.ns .i64 cf)), (6, .dat (.slice pd d.length cd) (.ns .u8 d)), (7, .dat (.slice pa nn ca) (.l 4 (ls.map entD)))] w0) :
    Calls Try.prog 9 #[.agg #[.int .i64 bi, .int .i64 bt, .slice pc cf.length cc, .slice pd d.length cd], .slice pa nn ca] w0 fun e w' => ∃ (B k : Nat) (pc' : Option Addr) (cc' : Nat) (pd' : Option Addr) (cd' : Nat) (pl' : Option Addr) (cl' : Nat), e = .returned (.pointer (some ⟨B, 0, none⟩)) ∧ Run bi ls k ∧ MemOk X w0 [(1, .box B 56 [.int .i64 bi, .int .i64 bt, .slice pc' cf.length cc', .slice pd' d.length cd', .slice pl' ((ls.take k).map entD).length cl']), (2, .seg (.slice pl' ((ls.take k).map entD).length cl') 32 4 ((ls.take k).map entD)), (3, .dat (.slice pc' cf.length cc') (.ns .i64 cf)), (4, .dat (.slice pd' d.length cd') (.ns .u8 d))] w' := by
  refine enter (fn := Try.f9) Try.func9 rfl Try.ntmps9 rfl (fun a0 ha0 => ?_)
  simp only [List.zipIdx_cons, List.zipIdx_nil, List.map_cons, List.map_nil, Nat.reduceAdd, Nat.zero_add] at ha0
  refine wp_seq_k (fun K0 hK0 => ?_)
  refine wp_region_lit ?_
  refine wpList_plain rfl (fun K hK => ?_)
  refine e_box ha0 m0 8 (cs := [_, _, _, _]) rfl rfl rfl ?_
  clear ha0 a0 m0; intro g1 a2 w2 ha2 m2 hB2 hg2
  clear hB2 hg2
  refine hK _ _ ?_; clear hK K
  refine st_y ha2 rfl (y_assign ha2 rfl) ?_
  clear ha2 a2; intro a3 ha3
  refine wpList_nil ?_
  refine hK0 _ _ ?_; clear hK0; try clear K0
  refine wp_seq_k (fun K1 hK1 => ?_)
  refine wp_region_lit ?_
  refine st_y ha3 rfl (y_buildG ha3 rfl zc56nw ps56nw rfl) ?_
  clear ha3 a3; intro a4 ha4
  refine wpList_plain rfl (fun K hK => ?_)
  refine e_box ha4 m2 9 (cs := [_, _, _, _, _]) rfl rfl rfl ?_
  clear ha4 a4 m2; intro g5 a6 w6 ha6 m6 hB6 hg6
  clear hB6 hg6
  refine hK _ _ ?_; clear hK K
  refine st_y ha6 rfl (y_assign ha6 rfl) ?_
  clear ha6 a6; intro a7 ha7
  refine wpList_nil ?_
  refine hK1 _ _ ?_; clear hK1; try clear K1
  refine wp_seq_k (fun K2 hK2 => ?_)
  refine wp_region_lit ?_
  refine st_y ha7 rfl (y_move ha7 rfl) ?_
  clear ha7 a7; intro a8 ha8
  refine st_y ha8 rfl (y_loadBR ha8 m6 (i := 8) rfl rfl Try.underlying28 rfl sz28nw (by simp) (by dsimp only [List.drop, List.take] <;> rfl)) ?_
  clear ha8 a8; intro a9 ha9
  refine wpList_plain rfl (fun K hK => ?_)
  refine e_call ha9 Try.func22 rfl rfl rfl rfl (reset_fr _ _ _ _ _ _ _ _ bi bt cf d _ _ _ _ hcf hdl (m6.into [(1, 9), (5, 5), (6, 6)] (by decide) rfl)) ?_
  rintro e w10 ⟨pc10, cc10, pd10, cd10, rfl, hm10⟩
  have mx10 := m6.back hm10 [(11, 1), (12, 2), (13, 3), (14, 4)] (by decide); clear hm10 m6
  have m10 : MemOk _ _ [(11, _), (12, _), (13, _), (14, _), (7, _), (8, _)] _ := mx10.only [11, 12, 13, 14, 7, 8]; clear mx10
  refine ⟨_, rfl, fun a11 ha11 => ?_⟩; clear ha9 a9
  refine hK _ _ ?_; clear hK K
  refine wpList_nil ?_
  refine hK2 _ _ ?_; clear hK2; try clear K2
  refine wp_seq_k (fun K3 hK3 => ?_)
  have ha12 : Has 17 [(1, _), (4, _), (5, _)] a11 := ha11.only [1, 4, 5]; clear ha11
  refine wp_region_lit ?_
  refine st_y ha12 rfl (y_move ha12 rfl) ?_
  clear ha12 a11; intro a13 ha13
  refine st_y ha13 rfl (y_nilCheck ha13 rfl) ?_
  clear ha13 a13; intro a14 ha14
  refine st_y ha14 rfl (y_fieldAddr ha14 (off := 0) rfl Try.underlying56 rfl (s := 4) (by kernel_rfl) rfl) ?_
  clear ha14 a14; intro a15 ha15
  refine st_y ha15 rfl (y_move ha15 rfl) ?_
  clear ha15 a15; intro a16 ha16
  refine wpList_plain rfl (fun K hK => ?_)
  refine e_call ha16 Try.func31 rfl rfl rfl rfl (grow_fr _ _ _ _ cf d [] ls _ _ _ _ _ _ _ _ _ _ (by omega) (by simp; omega) hok (m10.into [(1, 11), (2, 12), (3, 13), (4, 14), (5, 7)] (by decide) rfl)) ?_
  rintro e w17 ⟨k, pl17, cl17, rfl, hrun, hm17⟩
  have mx17 := m10.back hm17 [(11, 1), (12, 2), (13, 3), (14, 4)] (by decide); clear hm17 m10
  have m17 : MemOk _ _ [(11, _), (12, _), (13, _), (14, _), (8, _)] _ := mx17.only [11, 12, 13, 14, 8]; clear mx17
  refine ⟨_, rfl, fun a18 ha18 => ?_⟩; clear ha16 a16
  refine hK _ _ ?_; clear hK K
  refine wpList_nil ?_
  refine hK3 _ _ ?_; clear hK3; try clear K3
  refine wp_seq_k (fun K4 hK4 => ?_)
  have ha19 : Has 17 [(4, _), (5, _)] a18 := ha18.only [4, 5]; clear ha18
  refine wp_region_lit ?_
  refine st_y ha19 rfl (y_move ha19 rfl) ?_
  clear ha19 a18; intro a20 ha20
  refine st_y ha20 rfl (y_assign ha20 rfl) ?_
  clear ha20 a20; intro a21 ha21
  refine wpList_nil ?_
  refine hK4 _ _ ?_; clear hK4; try clear K4
  refine wp_ret ?_
  try dsimp only [Exit.then, Exit.inBlock]
  refine (ret1 (fn := Try.f9) ha21 rfl rfl ?_)
  rw [List.nil_append] at m17
  simp only [List.length_nil, Int.natCast_zero, Int.add_zero] at hrun
  exact ⟨_, k, _, _, _, _, _, _, rfl, hrun, m17.ren [(1, 11), (2, 12), (3, 13), (4, 14)] (by decide)⟩
end Go.Proofs.Ytmdckdhogbbhlaa.K
