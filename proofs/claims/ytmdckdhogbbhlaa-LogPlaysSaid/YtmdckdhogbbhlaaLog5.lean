/- rlog: Follow, Add, Compact. -/
import Derived.Test.YtmdckdhogbbhlaaLog4
namespace Go.Proofs.Ytmdckdhogbbhlaa.K
open Go.ChangeShapes Go.WideShapes Go.ChangeAt Go.RowKit
set_option linter.unusedVariables false
set_option linter.unusedSimpArgs false

theorem sz32fo : (Try.prog.info? 32).map (·.size) = some 4 := by kernel_rfl
theorem fl32ad : flatS Try.prog 32 [.int .i64 0, .int .i64 0, .int .i64 0, .slice none 0 0] = true := by kernel_rfl
theorem inf32ad : (Try.prog.info? 32).map (fun i => (i.zero, i.size, i.bytes)) = some (some (.agg #[.int .i64 0, .int .i64 0, .int .i64 0, .slice none 0 0]), 4, 48) := by kernel_rfl
theorem sz29ad : (Try.prog.info? 29).map (·.size) = some 1 := by kernel_rfl
theorem sz32ad : (Try.prog.info? 32).map (·.size) = some 4 := by kernel_rfl
theorem zc32ad : ((Try.prog.info? 32).bind (·.zero)).map (·.cells.toList) = some [.int .i64 0, .int .i64 0, .int .i64 0, .slice none 0 0] := by kernel_rfl
theorem fl28co : flatS Try.prog 28 [.int .i64 0, .int .i64 0, .slice none 0 0, .slice none 0 0] = true := by kernel_rfl
theorem sz28co : (Try.prog.info? 28).map (·.size) = some 4 := by kernel_rfl
theorem sz29co : (Try.prog.info? 29).map (·.size) = some 1 := by kernel_rfl
theorem sz32co : (Try.prog.info? 32).map (·.size) = some 4 := by kernel_rfl
theorem zc28co : ((Try.prog.info? 28).bind (·.zero)).map (·.cells.toList) = some [.int .i64 0, .int .i64 0, .slice none 0 0, .slice none 0 0] := by kernel_rfl

def skipB (bi : Int) (es : List (Int × Int × Int × List Int)) (e : Int × Int × Int × List Int) : Bool := decide (e.1 ≤ bi) || hasB bi es e.1 e.2.1
theorem drop_at {ls : List (Int × Int × Int × List Int)} {k n : Nat} {e : Int × Int × Int × List Int} (h : ((ls.take k).drop n)[0]? = some e) : ls.getD n e0 = e := by
  rw [List.getElem?_drop, Nat.add_zero] at h
  have hlt := (List.getElem?_eq_some_iff.1 h).1
  rw [List.length_take] at hlt
  rw [List.getElem?_take_of_lt (by omega)] at h
  rw [List.getD, h]; rfl
theorem skip_snoc {bi : Int} {es ls : List (Int × Int × Int × List Int)} {n : Nat} {ei et ek : Int} {ed : List Int} (h : ∀ j, j < n → skipB bi es (ls.getD j e0) = true) (hen : ls.getD n e0 = (ei, et, ek, ed)) (h1 : ei ≤ bi ∨ hasB bi es ei et = true) : ∀ j, j < n + 1 → skipB bi es (ls.getD j e0) = true := by
  intro j hj
  rcases Nat.lt_or_ge j n with h2 | h2
  · exact h j h2
  · obtain rfl : j = n := by omega
    rw [hen]; unfold skipB
    rcases h1 with h1 | h1
    · simp [h1]
    · simp [h1]
theorem fol_no2 {bi : Int} {es ls : List (Int × Int × Int × List Int)} {n : Nat} {ei et ek : Int} {ed : List Int} (hen : ls.getD n e0 = (ei, et, ek, ed)) (h1 : bi < ei) (h2 : hasB bi es ei et = false) : skipB bi es (ls.getD n e0) = false := by
  rw [hen]; unfold skipB; simp [h2]; omega
theorem cutL_len (bi : Int) (es : List (Int × Int × Int × List Int)) (i : Int) : (cutL bi es i).length ≤ es.length := by
  unfold cutL; split
  · simp; omega
  · exact Nat.le_refl _
set_option maxRecDepth 100000
set_option maxHeartbeats 4000000
theorem follow_no (X : Cx) (B : Nat) (bi bt : Int) (cf d : List Int) (es : List (Int × Int × Int × List Int)) (pc pd pl : Option Addr) (cc cd cl : Nat) (prev tm : Int) (ls : List (Int × Int × Int × List Int)) (pa : Option Addr) (nn ca : Nat) (w0 : World) (hbi : -1000000000000000000 ≤ bi ∧ bi ≤ 1000000000000000000) (hn : es.length ≤ 1000000) (hp : bi ≤ prev) (hno : bi + es.length < prev ∨ ¬ termL bi bt es prev = tm) (m0 : MemOk X w0 [(1, .box B 56 [.int .i64 bi, .int .i64 bt, .slice pc cf.length cc, .slice pd d.length cd, .slice pl (es.map entD).length cl]), (2, .seg (.slice pl (es.map entD).length cl) 32 4 (es.map entD)), (3, .dat (.slice pc cf.length cc) (.ns .i64 cf)), (4, .dat (.slice pd d.length cd) (.ns .u8 d)), (5, .dat (.slice pa nn ca) (.l 4 (ls.map entD)))] w0) :
    Calls Try.prog 13 #[.pointer (some ⟨B, 0, none⟩), .int .i64 prev, .int .i64 tm, .slice pa nn ca] w0 fun e w' => e = .returned (.tuple #[.slice none 0 0, .int .i64 0, .bool false]) ∧ MemOk X w0 [(1, .box B 56 [.int .i64 bi, .int .i64 bt, .slice pc cf.length cc, .slice pd d.length cd, .slice pl (es.map entD).length cl]), (2, .seg (.slice pl (es.map entD).length cl) 32 4 (es.map entD)), (3, .dat (.slice pc cf.length cc) (.ns .i64 cf)), (4, .dat (.slice pd d.length cd) (.ns .u8 d))] w' := by
  refine enter (fn := Try.f13) Try.func13 rfl Try.ntmps13 rfl (fun a0 ha0 => ?_)
  simp only [List.zipIdx_cons, List.zipIdx_nil, List.map_cons, List.map_nil, Nat.reduceAdd, Nat.zero_add] at ha0
  have hml : (es.map entD).length = es.length := List.length_map _
  have hml2 : (ls.map entD).length = ls.length := List.length_map _
  refine wp_seq_k (fun K0 hK0 => ?_)
  refine wp_region_lit ?_
  refine st_y ha0 rfl (y_assign ha0 rfl) ?_
  clear ha0 a0; intro a1 ha1
  refine st_y ha1 rfl (y_assign ha1 rfl) ?_
  clear ha1 a1; intro a2 ha2
  refine st_y ha2 rfl (y_assign ha2 rfl) ?_
  clear ha2 a2; intro a3 ha3
  refine wpList_nil ?_
  refine hK0 _ _ ?_; clear hK0; try clear K0
  refine wp_seq_k (fun K1 hK1 => ?_)
  refine wp_seq_k (fun K2 hK2 => ?_)
  refine wp_region_lit ?_
  refine st_y ha3 rfl (y_move ha3 rfl) ?_
  clear ha3 a3; intro a4 ha4
  refine st_y ha4 rfl (y_move ha4 rfl) ?_
  clear ha4 a4; intro a5 ha5
  refine st_y ha5 rfl (y_nilCheck ha5 rfl) ?_
  clear ha5 a5; intro a6 ha6
  refine st_y ha6 rfl (y_fieldAddr ha6 (off := 0) rfl Try.underlying56 rfl (s := 4) (by kernel_rfl) rfl) ?_
  clear ha6 a6; intro a7 ha7
  refine st_y ha7 rfl (y_fieldAddr ha7 (off := 0) rfl Try.underlying54 rfl (s := 3) (by kernel_rfl) rfl) ?_
  clear ha7 a7; intro a8 ha8
  refine st_y ha8 rfl (y_fieldAddr ha8 (off := 0) rfl Try.underlying28 rfl (s := 0) (by kernel_rfl) rfl) ?_
  clear ha8 a8; intro a9 ha9
  refine st_y ha9 rfl (y_loadB1 ha9 m0 (i := 1) rfl rfl rfl Try.underlying3 rfl) ?_
  clear ha9 a9; intro a10 ha10
  refine st_y ha10 rfl (y_geq ha10 rfl rfl) ?_
  clear ha10 a10; intro a11 ha11
  refine st_y ha11 rfl (y_move ha11 rfl) ?_
  clear ha11 a11; intro a12 ha12
  refine bool_cases ha12 (t := 20) rfl (fun hb13 ha13 => ?_) (fun hb13 ha13 => ?_)
  rotate_left
  · exact absurd hb13 (by simp; omega)
  clear ha12 hb13
  refine st_g ha13 rfl rfl rfl rfl (y_move ha13 rfl) ?_
  clear ha13 a12; intro a14 ha14
  refine st_g ha14 rfl rfl rfl rfl (y_move ha14 rfl) ?_
  clear ha14 a14; intro a15 ha15
  refine st_g ha15 rfl rfl rfl rfl (y_nilCheck ha15 rfl) ?_
  clear ha15 a15; intro a16 ha16
  refine st_g ha16 rfl rfl rfl rfl (y_fieldAddr ha16 (off := 0) rfl Try.underlying56 rfl (s := 4) (by kernel_rfl) rfl) ?_
  clear ha16 a16; intro a17 ha17
  refine st_ge ha17 rfl rfl rfl rfl (fun K hK => ?_)
  refine e_call ha17 Try.func25 rfl rfl rfl rfl (last_any _ _ _ _ _ _ _ _ _ (m0.ok 1 _ rfl : Res.ok _ _ _ _ (.box _ _ _)).1 (by omega) (by first | omega | (simp; omega) | simp)) ?_
  rintro e w18 ⟨rfl, hb18⟩
  have m19 := m0.later hb18
  clear m0
  clear hb18
  refine ⟨_, rfl, fun a20 ha20 => ?_⟩; clear ha17 a17
  refine hK _ _ ?_; clear hK K
  refine st_g ha20 rfl rfl rfl rfl (y_gtr ha20 rfl rfl) ?_
  clear ha20 a20; intro a21 ha21
  refine st_g ha21 rfl rfl rfl rfl (y_move ha21 rfl) ?_
  clear ha21 a21; intro a22 ha22
  refine bool_cases ha22 (t := 27) rfl (fun hb23 ha23 => ?_) (fun hb23 ha23 => ?_)
  · skip
    clear ha22
    try simp only [decide_eq_true_eq, decide_eq_false_iff_not, Bool.not_eq_true, Bool.not_eq_false, Bool.not_eq_eq_eq_not, Bool.not_true, Bool.not_false, Bool.not_not, Int.not_lt, Int.not_le, ne_eq, Decidable.not_not] at hb23
    refine st_skip ha23 rfl rfl rfl rfl ?_
    clear ha23 a22; intro a24 ha24
    refine st_skip ha24 rfl rfl rfl rfl ?_
    clear ha24 a24; intro a25 ha25
    refine st_skip ha25 rfl rfl rfl rfl ?_
    clear ha25 a25; intro a26 ha26
    refine st_skip ha26 rfl rfl rfl rfl ?_
    clear ha26 a26; intro a27 ha27
    refine st_skip ha27 rfl rfl rfl rfl ?_
    clear ha27 a27; intro a28 ha28
    refine st_g ha28 rfl rfl rfl rfl (y_pickT ha28 rfl rfl) ?_
    clear ha28 a28; intro a29 ha29
    refine st_y ha29 rfl (y_pickT ha29 rfl rfl) ?_
    clear ha29 a29; intro a30 ha30
    refine wpList_nil ?_
    refine hK2 _ _ ?_; clear hK2; try clear K2
    refine wp_cond_true (ha30.ev (x := .tmp 34) rfl) ?_
    refine wp_seq_k (fun K3 hK3 => ?_)
    have ha31 : Has 95 [(0, _), (1, _), (3, _), (8, _), (9, _), (10, _)] a30 := ha30.only [0, 1, 3, 8, 9, 10]; clear ha30
    refine wp_region_lit ?_
    refine st_y ha31 rfl (y_assign ha31 rfl) ?_
    clear ha31 a30; intro a32 ha32
    refine st_y ha32 rfl (y_assign ha32 rfl) ?_
    clear ha32 a32; intro a33 ha33
    refine st_y ha33 rfl (y_assign ha33 rfl) ?_
    clear ha33 a33; intro a34 ha34
    refine wpList_nil ?_
    refine hK3 _ _ ?_; clear hK3; try clear K3
    refine wp_ret ?_
    try dsimp only [Exit.then, Exit.inBlock]
    refine (ret3 (fn := Try.f13) ha34 rfl rfl rfl rfl ?_)
    exact ⟨rfl, m19.only [1, 2, 3, 4]⟩
  · skip
    clear ha22
    try simp only [decide_eq_true_eq, decide_eq_false_iff_not, Bool.not_eq_true, Bool.not_eq_false, Bool.not_eq_eq_eq_not, Bool.not_true, Bool.not_false, Bool.not_not, Int.not_lt, Int.not_le, ne_eq, Decidable.not_not] at hb23
    refine st_g ha23 rfl rfl rfl rfl (y_move ha23 rfl) ?_
    clear ha23 a22; intro a35 ha35
    refine st_g ha35 rfl rfl rfl rfl (y_move ha35 rfl) ?_
    clear ha35 a35; intro a36 ha36
    refine st_ge ha36 rfl rfl rfl rfl (fun K hK => ?_)
    refine e_call ha36 Try.func26 rfl rfl rfl rfl (term_any _ _ _ _ _ _ _ _ _ _ _ _ _ _ (m19.ok 1 _ rfl : Res.ok _ _ _ _ (.box _ _ _)).1 ((m19.ok 2 _ rfl : Res.ok _ _ _ _ (.seg _ _ _ _)).1.rd (S' := fun _ => True) (fun _ _ _ => trivial) (fun _ _ => trivial)) (by omega) (by first | omega | (simp; omega) | simp)) ?_
    rintro e w37 ⟨rfl, hb37⟩
    have m38 := m19.later hb37
    clear m19
    clear hb37
    refine ⟨_, rfl, fun a39 ha39 => ?_⟩; clear ha36 a36
    refine hK _ _ ?_; clear hK K
    refine st_g ha39 rfl rfl rfl rfl (y_move ha39 rfl) ?_
    clear ha39 a39; intro a40 ha40
    refine st_g ha40 rfl rfl rfl rfl (y_neq ha40 rfl rfl) ?_
    clear ha40 a40; intro a41 ha41
    refine st_g ha41 rfl rfl rfl rfl (y_pickF ha41 rfl rfl) ?_
    clear ha41 a41; intro a42 ha42
    refine st_y ha42 rfl (y_pickT ha42 rfl rfl) ?_
    clear ha42 a42; intro a43 ha43
    refine wpList_nil ?_
    refine hK2 _ _ ?_; clear hK2; try clear K2
    refine bool_cases ha43 (t := 34) rfl (fun hb44 ha44 => ?_) (fun hb44 ha44 => ?_)
    rotate_left
    · exact absurd hb44 (by first | (simp; exact hno.resolve_left (by omega)) | simp)
    clear ha43 hb44
    refine wp_cond_true (ha44.ev (x := .tmp 34) rfl) ?_
    refine wp_seq_k (fun K4 hK4 => ?_)
    have ha45 : Has 95 [(0, _), (1, _), (3, _), (8, _), (9, _), (10, _)] a43 := ha44.only [0, 1, 3, 8, 9, 10]; clear ha44
    refine wp_region_lit ?_
    refine st_y ha45 rfl (y_assign ha45 rfl) ?_
    clear ha45 a43; intro a46 ha46
    refine st_y ha46 rfl (y_assign ha46 rfl) ?_
    clear ha46 a46; intro a47 ha47
    refine st_y ha47 rfl (y_assign ha47 rfl) ?_
    clear ha47 a47; intro a48 ha48
    refine wpList_nil ?_
    refine hK4 _ _ ?_; clear hK4; try clear K4
    refine wp_ret ?_
    try dsimp only [Exit.then, Exit.inBlock]
    refine (ret3 (fn := Try.f13) ha48 rfl rfl rfl rfl ?_)
    exact ⟨rfl, m38.only [1, 2, 3, 4]⟩
theorem follow_yes (X : Cx) (B : Nat) (bi bt : Int) (cf d : List Int) (es : List (Int × Int × Int × List Int)) (pc pd pl : Option Addr) (cc cd cl : Nat) (prev tm : Int) (ls : List (Int × Int × Int × List Int)) (pa : Option Addr) (nn ca : Nat) (w0 : World) (hbi : -1000000000000000000 ≤ bi ∧ bi ≤ 1000000000000000000) (hpv : -1000000000000000000 ≤ prev ∧ prev ≤ 1000000000000000000) (hn : es.length + ls.length ≤ 1000000) (hok : EntsOk ls) (hyes : bi ≤ prev → prev ≤ bi + es.length ∧ termL bi bt es prev = tm) (m0 : MemOk X w0 [(1, .box B 56 [.int .i64 bi, .int .i64 bt, .slice pc cf.length cc, .slice pd d.length cd, .slice pl (es.map entD).length cl]), (2, .seg (.slice pl (es.map entD).length cl) 32 4 (es.map entD)), (3, .dat (.slice pc cf.length cc) (.ns .i64 cf)), (4, .dat (.slice pd d.length cd) (.ns .u8 d)), (5, .dat (.slice pa nn ca) (.l 4 (ls.map entD)))] w0) :
    Calls Try.prog 13 #[.pointer (some ⟨B, 0, none⟩), .int .i64 prev, .int .i64 tm, .slice pa nn ca] w0 fun e w' => ∃ (k n : Nat) (es' : List (Int × Int × Int × List Int)) (pl' : Option Addr) (cl' : Nat) (pr : Option Addr) (cr : Nat), e = .returned (.tuple #[.slice pr (((ls.take k).drop n).map entD).length cr, .int .i64 (max (prev + k) bi), .bool true]) ∧ Run prev ls k ∧ n ≤ k ∧ (∀ j, j < n → skipB bi es (ls.getD j e0) = true) ∧
      ((n = k ∧ es' = es) ∨ (n < k ∧ skipB bi es (ls.getD n e0) = false ∧ ∃ g, Run (bi + (cutL bi es (ls.getD n e0).1).length) ((ls.take k).drop n) g ∧ es' = cutL bi es (ls.getD n e0).1 ++ ((ls.take k).drop n).take g)) ∧ MemOk X w0 [(1, .box B 56 [.int .i64 bi, .int .i64 bt, .slice pc cf.length cc, .slice pd d.length cd, .slice pl' (es'.map entD).length cl']), (2, .seg (.slice pl' (es'.map entD).length cl') 32 4 (es'.map entD)), (3, .dat (.slice pc cf.length cc) (.ns .i64 cf)), (4, .dat (.slice pd d.length cd) (.ns .u8 d)), (5, .dat (.slice pr (((ls.take k).drop n).map entD).length cr) (.l 4 (((ls.take k).drop n).map entD)))] w' := by
  refine enter (fn := Try.f13) Try.func13 rfl Try.ntmps13 rfl (fun a0 ha0 => ?_)
  simp only [List.zipIdx_cons, List.zipIdx_nil, List.map_cons, List.map_nil, Nat.reduceAdd, Nat.zero_add] at ha0
  have hml : (es.map entD).length = es.length := List.length_map _
  have hml2 : (ls.map entD).length = ls.length := List.length_map _
  refine wp_seq_k (fun K0 hK0 => ?_)
  refine wp_region_lit ?_
  refine st_y ha0 rfl (y_assign ha0 rfl) ?_
  clear ha0 a0; intro a1 ha1
  refine st_y ha1 rfl (y_assign ha1 rfl) ?_
  clear ha1 a1; intro a2 ha2
  refine st_y ha2 rfl (y_assign ha2 rfl) ?_
  clear ha2 a2; intro a3 ha3
  refine wpList_nil ?_
  refine hK0 _ _ ?_; clear hK0; try clear K0
  refine wp_seq_k (fun K1 hK1 => ?_)
  have hC1 : ∀ (a : Act) (w : World), (Has 95 [(0, .pointer (some ⟨B, 0, none⟩)), (1, .int .i64 prev), (3, .slice pa nn ca)] a ∧ MemOk X w0 [(1, .box B 56 [.int .i64 bi, .int .i64 bt, .slice pc cf.length cc, .slice pd d.length cd, .slice pl (es.map entD).length cl]), (2, .seg (.slice pl (es.map entD).length cl) 32 4 (es.map entD)), (3, .dat (.slice pc cf.length cc) (.ns .i64 cf)), (4, .dat (.slice pd d.length cd) (.ns .u8 d)), (5, .dat (.slice pa nn ca) (.l 4 (ls.map entD)))] w) → K1 a w := by
    clear ha3 m0
    rintro a4 w4 ⟨ha4, m4⟩
    refine hK1 _ _ ?_; clear hK1; try clear K1
    refine wp_seq_k (fun K2 hK2 => ?_)
    refine wp_region_lit ?_
    refine st_y ha4 rfl (y_move ha4 rfl) ?_
    clear ha4 a4; intro a5 ha5
    refine st_y ha5 rfl (y_move ha5 rfl) ?_
    clear ha5 a5; intro a6 ha6
    refine wpList_plain rfl (fun K hK => ?_)
    refine e_call ha6 Try.func34 rfl rfl rfl rfl (run_any _ ls _ _ _ _ (m4.rd (i := 5) rfl).any (by omega) (by first | omega | (simp; omega))) ?_
    rintro e w8 ⟨k, rfl, hk1, hk2, hk3, hb8⟩
    try rw [List.length_map] at hk2 hk3
    have m9 := m4.later hb8
    clear m4
    have m10 := m9.takeR (i := 5) rfl k (by simp; omega) 100 rfl
    clear m9
    rw [← List.map_take] at m10
    clear hb8
    refine ⟨_, rfl, fun a11 ha11 => ?_⟩; clear ha6 a6
    refine hK _ _ ?_; clear hK K
    refine st_y ha11 rfl (y_assign ha11 rfl) ?_
    clear ha11 a11; intro a12 ha12
    refine wpList_nil ?_
    refine hK2 _ _ ?_; clear hK2; try clear K2
    refine wp_seq_k (fun K3 hK3 => ?_)
    refine wp_region_lit ?_
    refine st_y ha12 rfl (y_move ha12 rfl) ?_
    clear ha12 a12; intro a13 ha13
    refine st_y ha13 rfl (y_move ha13 rfl) ?_
    clear ha13 a13; intro a14 ha14
    refine st_y ha14 rfl (y_len ha14 rfl Try.underlying29) ?_
    clear ha14 a14; intro a15 ha15
    refine st_y ha15 rfl (y_add ha15 rfl rfl (r := prev + k) (IntWalk.i64_in _ (by omega))) ?_
    clear ha15 a15; intro a16 ha16
    refine st_y ha16 rfl (y_move ha16 rfl) ?_
    clear ha16 a16; intro a17 ha17
    refine st_y ha17 rfl (y_nilCheck ha17 rfl) ?_
    clear ha17 a17; intro a18 ha18
    refine st_y ha18 rfl (y_fieldAddr ha18 (off := 0) rfl Try.underlying56 rfl (s := 4) (by kernel_rfl) rfl) ?_
    clear ha18 a18; intro a19 ha19
    refine st_y ha19 rfl (y_fieldAddr ha19 (off := 0) rfl Try.underlying54 rfl (s := 3) (by kernel_rfl) rfl) ?_
    clear ha19 a19; intro a20 ha20
    refine st_y ha20 rfl (y_fieldAddr ha20 (off := 0) rfl Try.underlying28 rfl (s := 0) (by kernel_rfl) rfl) ?_
    clear ha20 a20; intro a21 ha21
    refine st_y ha21 rfl (y_loadB1 ha21 m10 (i := 1) rfl rfl rfl Try.underlying3 rfl) ?_
    clear ha21 a21; intro a22 ha22
    refine st_y ha22 rfl (y_max ha22 rfl rfl rfl) ?_
    clear ha22 a22; intro a23 ha23
    refine st_y ha23 rfl (y_assign ha23 rfl) ?_
    clear ha23 a23; intro a24 ha24
    refine wpList_nil ?_
    refine hK3 _ _ ?_; clear hK3; try clear K3
    refine wp_seq_k (fun K4 hK4 => ?_)
    refine wp_block ?_
    have hkk : ((ls.take k).map entD).length = k := by simp; omega
    refine wp_loop_ghost (fun g a w => ∃ (n : Nat) (pq : Option Addr) (cq : Nat), n ≤ k ∧ g = k - n ∧ (∀ j, j < n → skipB bi es (ls.getD j e0) = true) ∧ Has 95 [(0, .pointer (some ⟨B, 0, none⟩)), (3, .slice pq (((ls.take k).drop n).map entD).length cq), (11, .int .i64 (max (prev + k) bi))] a ∧ MemOk X w0 [(1, .box B 56 [.int .i64 bi, .int .i64 bt, .slice pc cf.length cc, .slice pd d.length cd, .slice pl (es.map entD).length cl]), (2, .seg (.slice pl (es.map entD).length cl) 32 4 (es.map entD)), (3, .dat (.slice pc cf.length cc) (.ns .i64 cf)), (4, .dat (.slice pd d.length cd) (.ns .u8 d)), (7, .dat (.slice pq (((ls.take k).drop n).map entD).length cq) (.l 4 (((ls.take k).drop n).map entD)))] w) (k) ?_ ?_
    · exact ⟨0, _, _, Nat.zero_le _, rfl, (fun j hj => by omega), by rw [List.drop_zero, hkk]; exact ha24.only [0, 3, 11], by rw [List.drop_zero, hkk]; exact m10.ren [(1, 1), (2, 2), (3, 3), (4, 4), (7, 100)] (by decide)⟩
    · skip
      clear ha24 m10
      rintro g a25 w25 ⟨n, pq, cq, hnk, hg, hsk, ha25, m25⟩
      rcases Nat.lt_or_eq_of_le hnk with hlt | heq
      · skip
        have hr7 : ((ls.take k).drop n).length = k - n := by simp; omega
        obtain ⟨⟨ei, et, ek, ed⟩, hes⟩ : ∃ e, ((ls.take k).drop n)[0]? = some e := ⟨_, List.getElem?_eq_getElem (by omega)⟩
        have hen : ls.getD n e0 = (ei, et, ek, ed) := drop_at hes
        obtain ⟨l2, hl2⟩ : ∃ x, ((ls.take k).drop n) = x := ⟨_, rfl⟩
        rw [hl2] at hr7 hes ha25 m25
        refine wp_seq_k (fun K5 hK5 => ?_)
        refine wp_seq_k (fun K6 hK6 => ?_)
        obtain ⟨b26, o26, vs26, hp26, hR26, ho26, m26⟩ := m25.openR (i := 7) rfl (0) (r := [.v (.int .i64 ei), .v (.int .i64 et), .v (.int .i64 ek), .ns .u8 ed]) (ent_get hes) 200 rfl
        cases hp26; clear m25 ho26
        rcases hR26 with _ | ⟨hd26_0, _ | ⟨hd26_1, _ | ⟨hd26_2, _ | ⟨hd26_3, _ | _⟩⟩⟩⟩
        obtain rfl := hd26_0.v_out
        clear hd26_0
        obtain rfl := hd26_1.v_out
        clear hd26_1
        obtain rfl := hd26_2.v_out
        clear hd26_2
        obtain ⟨p27, c27, hv27, hc27⟩ := hd26_3.ns_shape; subst hv27
        have m27 := m26.dat 201 rfl (hd26_3.cast (fun _ h => (free_add rfl h))); clear m26 hd26_3
        obtain ⟨b28, o28, vs28, hp28, hR28, ho28, m28⟩ := m27.openR (i := 7) rfl (0) (r := [.v (.int .i64 ei), .v (.int .i64 et), .v (.int .i64 ek), .ns .u8 ed]) (ent_get hes) 202 rfl
        cases hp28; clear m27 ho28
        rcases hR28 with _ | ⟨hd28_0, _ | ⟨hd28_1, _ | ⟨hd28_2, _ | ⟨hd28_3, _ | _⟩⟩⟩⟩
        obtain rfl := hd28_0.v_out
        clear hd28_0
        obtain rfl := hd28_1.v_out
        clear hd28_1
        obtain rfl := hd28_2.v_out
        clear hd28_2
        obtain ⟨p29, c29, hv29, hc29⟩ := hd28_3.ns_shape; subst hv29
        have m29 := m28.dat 203 rfl (hd28_3.cast (fun _ h => (free_add rfl h))); clear m28 hd28_3
        have m30 : MemOk _ _ [(1, _), (2, _), (3, _), (4, _), (7, _), (200, _), (201, _), (202, _), (203, _)] _ := m29.only [1, 2, 3, 4, 7, 200, 201, 202, 203]; clear m29
        refine region_m 25 (B := [(1, _), (2, _), (3, _), (4, _), (7, _), (200, _), (201, _), (202, _), (203, _)]) (m30.to ⟨.inl rfl, .inl rfl, .inl rfl, .inl rfl, .inl rfl, .inl rfl, .inl rfl, .inl rfl, .inl rfl, trivial⟩) m30 (by kernel_rfl) (fun w31 mB31 m31 => ?_); clear m30 mB31
        refine d_y 0 ha25 rfl rfl (fun _ => (m31.to ⟨.inl rfl, .inl rfl, .inl rfl, .inl rfl, .inl rfl, .inl rfl, .inl rfl, .inl rfl, .inl rfl, trivial⟩)) (by kernel_rfl) (by kernel_rfl) (by kernel_rfl) (by rfl) (fun _ _ _ h => h) (fun W => y_move ha25 rfl) ?_
        clear ha25 a25; intro a32 ha32
        refine d_y 1 ha32 rfl rfl (fun _ => (m31.to ⟨.inl rfl, .inl rfl, .inl rfl, .inl rfl, .inl rfl, .inl rfl, .inl rfl, .inl rfl, .inl rfl, trivial⟩)) (by kernel_rfl) (by kernel_rfl) (by kernel_rfl) (by rfl) (fun _ _ _ h => h) (fun W => y_len ha32 rfl Try.underlying29) ?_
        clear ha32 a32; intro a33 ha33
        refine d_y 2 ha33 rfl rfl (fun _ => (m31.to ⟨.inl rfl, .inl rfl, .inl rfl, .inl rfl, .inl rfl, .inl rfl, .inl rfl, .inl rfl, .inl rfl, trivial⟩)) (by kernel_rfl) (by kernel_rfl) (by kernel_rfl) (by rfl) (fun _ _ _ h => h) (fun W => y_gtr ha33 rfl rfl) ?_
        clear ha33 a33; intro a34 ha34
        refine d_y 3 ha34 rfl rfl (fun _ => (m31.to ⟨.inl rfl, .inl rfl, .inl rfl, .inl rfl, .inl rfl, .inl rfl, .inl rfl, .inl rfl, .inl rfl, trivial⟩)) (by kernel_rfl) (by kernel_rfl) (by kernel_rfl) (by rfl) (fun _ _ _ h => h) (fun W => y_move ha34 rfl) ?_
        clear ha34 a34; intro a35 ha35
        refine bool_cases ha35 (t := 52) rfl (fun hb36 ha36 => ?_) (fun hb36 ha36 => ?_)
        rotate_left
        · exact absurd hb36 (fun h => of_decide_eq_false h (by rw [List.length_map]; omega))
        clear ha35 hb36
        refine d_yg 4 ha36 rfl rfl rfl rfl rfl (fun _ => (m31.to ⟨.inl rfl, .inl rfl, .inl rfl, .inl rfl, .inl rfl, .inl rfl, .inl rfl, .inl rfl, .inl rfl, trivial⟩)) (by kernel_rfl) (by kernel_rfl) (by kernel_rfl) (by rfl) (fun _ _ _ h => h) (fun W => y_move ha36 rfl) ?_
        clear ha36 a35; intro a37 ha37
        refine d_yg 5 ha37 rfl rfl rfl rfl rfl (fun _ => (m31.to ⟨.inl rfl, .inl rfl, .inl rfl, .inl rfl, .inl rfl, .inl rfl, .inl rfl, .inl rfl, .inl rfl, trivial⟩)) (by kernel_rfl) (by kernel_rfl) (by kernel_rfl) (by rfl) (fun _ _ _ h => h) (fun W => y_idx ha37 rfl rfl Try.underlying29 sz32fo (0) rfl (by rw [List.length_map]; omega)) ?_
        clear ha37 a37; intro a38 ha38
        refine d_yg 6 ha38 rfl rfl rfl rfl rfl (fun _ => (m31.to ⟨.inl rfl, .inl rfl, .inl rfl, .inl rfl, .inl rfl, .inl rfl, .inl rfl, .inl rfl, .inl rfl, trivial⟩)) (by kernel_rfl) (by kernel_rfl) (by kernel_rfl) (by rfl) (fun _ _ _ h => h) (fun W => y_fieldAddrQ ha38 0 rfl Try.underlying32 rfl (s := 0) (by kernel_rfl) rfl) ?_
        clear ha38 a38; intro a39 ha39
        refine d_hg 7 ha39 rfl rfl rfl rfl rfl (m31.to ⟨.inl rfl, .inl rfl, .inl rfl, .inl rfl, .inl rfl, .inl rfl, .inl rfl, .inl rfl, .inl rfl, trivial⟩) (by kernel_rfl) (by kernel_rfl) (by kernel_rfl) (by kernel_rfl) (by kernel_rfl) (fun _ _ _ h => h) (fun W hW => y_loadC0 ha39 hW (i := 200) rfl rfl Try.underlying3 rfl) ?_
        clear ha39 a39; intro a40 ha40
        refine d_yg 8 ha40 rfl rfl rfl rfl rfl (fun _ => (m31.to ⟨.inl rfl, .inl rfl, .inl rfl, .inl rfl, .inl rfl, .inl rfl, .inl rfl, .inl rfl, .inl rfl, trivial⟩)) (by kernel_rfl) (by kernel_rfl) (by kernel_rfl) (by rfl) (fun _ _ _ h => h) (fun W => y_move ha40 rfl) ?_
        clear ha40 a40; intro a41 ha41
        refine d_yg 9 ha41 rfl rfl rfl rfl rfl (fun _ => (m31.to ⟨.inl rfl, .inl rfl, .inl rfl, .inl rfl, .inl rfl, .inl rfl, .inl rfl, .inl rfl, .inl rfl, trivial⟩)) (by kernel_rfl) (by kernel_rfl) (by kernel_rfl) (by rfl) (fun _ _ _ h => h) (fun W => y_nilCheck ha41 rfl) ?_
        clear ha41 a41; intro a42 ha42
        refine d_yg 10 ha42 rfl rfl rfl rfl rfl (fun _ => (m31.to ⟨.inl rfl, .inl rfl, .inl rfl, .inl rfl, .inl rfl, .inl rfl, .inl rfl, .inl rfl, .inl rfl, trivial⟩)) (by kernel_rfl) (by kernel_rfl) (by kernel_rfl) (by rfl) (fun _ _ _ h => h) (fun W => y_fieldAddr ha42 (off := 0) rfl Try.underlying56 rfl (s := 4) (by kernel_rfl) rfl) ?_
        clear ha42 a42; intro a43 ha43
        refine d_yg 11 ha43 rfl rfl rfl rfl rfl (fun _ => (m31.to ⟨.inl rfl, .inl rfl, .inl rfl, .inl rfl, .inl rfl, .inl rfl, .inl rfl, .inl rfl, .inl rfl, trivial⟩)) (by kernel_rfl) (by kernel_rfl) (by kernel_rfl) (by rfl) (fun _ _ _ h => h) (fun W => y_fieldAddr ha43 (off := 0) rfl Try.underlying54 rfl (s := 3) (by kernel_rfl) rfl) ?_
        clear ha43 a43; intro a44 ha44
        refine d_yg 12 ha44 rfl rfl rfl rfl rfl (fun _ => (m31.to ⟨.inl rfl, .inl rfl, .inl rfl, .inl rfl, .inl rfl, .inl rfl, .inl rfl, .inl rfl, .inl rfl, trivial⟩)) (by kernel_rfl) (by kernel_rfl) (by kernel_rfl) (by rfl) (fun _ _ _ h => h) (fun W => y_fieldAddr ha44 (off := 0) rfl Try.underlying28 rfl (s := 0) (by kernel_rfl) rfl) ?_
        clear ha44 a44; intro a45 ha45
        refine d_hg 13 ha45 rfl rfl rfl rfl rfl (m31.to ⟨.inl rfl, .inl rfl, .inl rfl, .inl rfl, .inl rfl, .inl rfl, .inl rfl, .inl rfl, .inl rfl, trivial⟩) (by kernel_rfl) (by kernel_rfl) (by kernel_rfl) (by kernel_rfl) (by kernel_rfl) (fun _ _ _ h => h) (fun W hW => y_loadB1 ha45 hW (i := 1) rfl rfl rfl Try.underlying3 rfl) ?_
        clear ha45 a45; intro a46 ha46
        refine d_yg 14 ha46 rfl rfl rfl rfl rfl (fun _ => (m31.to ⟨.inl rfl, .inl rfl, .inl rfl, .inl rfl, .inl rfl, .inl rfl, .inl rfl, .inl rfl, .inl rfl, trivial⟩)) (by kernel_rfl) (by kernel_rfl) (by kernel_rfl) (by rfl) (fun _ _ _ h => h) (fun W => y_leq ha46 rfl rfl) ?_
        clear ha46 a46; intro a47 ha47
        refine d_yg 15 ha47 rfl rfl rfl rfl rfl (fun _ => (m31.to ⟨.inl rfl, .inl rfl, .inl rfl, .inl rfl, .inl rfl, .inl rfl, .inl rfl, .inl rfl, .inl rfl, trivial⟩)) (by kernel_rfl) (by kernel_rfl) (by kernel_rfl) (by rfl) (fun _ _ _ h => h) (fun W => y_move ha47 rfl) ?_
        clear ha47 a47; intro a48 ha48
        refine bool_cases ha48 (t := 64) rfl (fun hb49 ha49 => ?_) (fun hb49 ha49 => ?_)
        · skip
          clear ha48
          try simp only [decide_eq_true_eq, decide_eq_false_iff_not, Bool.not_eq_true, Bool.not_eq_false, Bool.not_eq_eq_eq_not, Bool.not_true, Bool.not_false, Bool.not_not, Int.not_lt, Int.not_le, ne_eq, Decidable.not_not] at hb49
          refine d_skip 16 ha49 rfl rfl rfl rfl rfl (fun _ => (m31.to ⟨.inl rfl, .inl rfl, .inl rfl, .inl rfl, .inl rfl, .inl rfl, .inl rfl, .inl rfl, .inl rfl, trivial⟩)) (by kernel_rfl) (by kernel_rfl) (by kernel_rfl) (by rfl) (fun _ _ _ h => h) ?_
          clear ha49 a48; intro a50 ha50
          refine d_skip 17 ha50 rfl rfl rfl rfl rfl (fun _ => (m31.to ⟨.inl rfl, .inl rfl, .inl rfl, .inl rfl, .inl rfl, .inl rfl, .inl rfl, .inl rfl, .inl rfl, trivial⟩)) (by kernel_rfl) (by kernel_rfl) (by kernel_rfl) (by rfl) (fun _ _ _ h => h) ?_
          clear ha50 a50; intro a51 ha51
          refine d_skip 18 ha51 rfl rfl rfl rfl rfl (fun _ => (m31.to ⟨.inl rfl, .inl rfl, .inl rfl, .inl rfl, .inl rfl, .inl rfl, .inl rfl, .inl rfl, .inl rfl, trivial⟩)) (by kernel_rfl) (by kernel_rfl) (by kernel_rfl) (by rfl) (fun _ _ _ h => h) ?_
          clear ha51 a51; intro a52 ha52
          refine d_skip 19 ha52 rfl rfl rfl rfl rfl (fun _ => (m31.to ⟨.inl rfl, .inl rfl, .inl rfl, .inl rfl, .inl rfl, .inl rfl, .inl rfl, .inl rfl, .inl rfl, trivial⟩)) (by kernel_rfl) (by kernel_rfl) (by kernel_rfl) (by rfl) (fun _ _ _ h => h) ?_
          clear ha52 a52; intro a53 ha53
          refine d_skip 20 ha53 rfl rfl rfl rfl rfl (fun _ => (m31.to ⟨.inl rfl, .inl rfl, .inl rfl, .inl rfl, .inl rfl, .inl rfl, .inl rfl, .inl rfl, .inl rfl, trivial⟩)) (by kernel_rfl) (by kernel_rfl) (by kernel_rfl) (by rfl) (fun _ _ _ h => h) ?_
          clear ha53 a53; intro a54 ha54
          refine d_skip 21 ha54 rfl rfl rfl rfl rfl (fun _ => (m31.to ⟨.inl rfl, .inl rfl, .inl rfl, .inl rfl, .inl rfl, .inl rfl, .inl rfl, .inl rfl, .inl rfl, trivial⟩)) (by kernel_rfl) (by kernel_rfl) (by kernel_rfl) (by rfl) (fun _ _ _ h => h) ?_
          clear ha54 a54; intro a55 ha55
          refine d_skip 22 ha55 rfl rfl rfl rfl rfl (fun _ => (m31.to ⟨.inl rfl, .inl rfl, .inl rfl, .inl rfl, .inl rfl, .inl rfl, .inl rfl, .inl rfl, .inl rfl, trivial⟩)) (by kernel_rfl) (by kernel_rfl) (by kernel_rfl) (by rfl) (fun _ _ _ h => h) ?_
          clear ha55 a55; intro a56 ha56
          refine d_yg 23 ha56 rfl rfl rfl rfl rfl (fun _ => (m31.to ⟨.inl rfl, .inl rfl, .inl rfl, .inl rfl, .inl rfl, .inl rfl, .inl rfl, .inl rfl, .inl rfl, trivial⟩)) (by kernel_rfl) (by kernel_rfl) (by kernel_rfl) (by rfl) (fun _ _ _ h => h) (fun W => y_pickT ha56 rfl rfl) ?_
          clear ha56 a56; intro a57 ha57
          refine d_y 24 ha57 rfl rfl (fun _ => (m31.to ⟨.inl rfl, .inl rfl, .inl rfl, .inl rfl, .inl rfl, .inl rfl, .inl rfl, .inl rfl, .inl rfl, trivial⟩)) (by kernel_rfl) (by kernel_rfl) (by kernel_rfl) (by rfl) (fun _ _ _ h => h) (fun W => y_pickT ha57 rfl rfl) ?_
          clear ha57 a57; intro a58 ha58
          refine wpAnyE_done (by kernel_rfl) ?_ _
          refine hK6 _ _ ?_; clear hK6; try clear K6
          refine wp_cond_true (ha58.ev (x := .tmp 73) rfl) ?_
          refine wp_skip ?_
          refine hK5 _ _ ?_; clear hK5; try clear K5
          refine wp_block ?_
          have ha59 : Has 95 [(0, _), (3, _), (11, _), (64, _), (73, _)] a58 := ha58.only [0, 3, 11, 64, 73]; clear ha58
          refine wp_region_lit ?_
          refine st_y ha59 rfl (y_move ha59 rfl) ?_
          clear ha59 a58; intro a60 ha60
          have m61 := m31.dropR (i := 7) rfl 1 (by rw [List.length_map]; omega) 204 rfl; clear m31
          refine st_y ha60 rfl (y_sliceLn ha60 1 rfl rfl Try.underlying29 sz32fo rfl (by rw [List.length_map]; omega)) ?_
          clear ha60 a60; intro a62 ha62
          refine st_y ha62 rfl (y_assign ha62 rfl) ?_
          clear ha62 a62; intro a63 ha63
          refine wpList_nil ?_
          show ∃ n', n' < _ ∧ _
          have hd1 : (l2.map entD).drop 1 = ((ls.take k).drop (n + 1)).map entD := by rw [← hl2, ← List.map_drop, List.drop_drop]
          have hd2 : (l2.map entD).length - 1 = (((ls.take k).drop (n + 1)).map entD).length := by rw [← hd1, List.length_drop]
          rw [hd1, hd2] at m61
          rw [hd2] at ha63
          exact ⟨k - (n + 1), by omega, n + 1, _, _, by omega, rfl, skip_snoc hsk hen (.inl hb49), ha63.only [0, 3, 11], m61.ren [(1, 1), (2, 2), (3, 3), (4, 4), (7, 204)] (by decide)⟩
        · skip
          clear ha48
          try simp only [decide_eq_true_eq, decide_eq_false_iff_not, Bool.not_eq_true, Bool.not_eq_false, Bool.not_eq_eq_eq_not, Bool.not_true, Bool.not_false, Bool.not_not, Int.not_lt, Int.not_le, ne_eq, Decidable.not_not] at hb49
          refine d_yg 16 ha49 rfl rfl rfl rfl rfl (fun _ => (m31.to ⟨.inl rfl, .inl rfl, .inl rfl, .inl rfl, .inl rfl, .inl rfl, .inl rfl, .inl rfl, .inl rfl, trivial⟩)) (by kernel_rfl) (by kernel_rfl) (by kernel_rfl) (by rfl) (fun _ _ _ h => h) (fun W => y_move ha49 rfl) ?_
          clear ha49 a48; intro a64 ha64
          refine d_yg 17 ha64 rfl rfl rfl rfl rfl (fun _ => (m31.to ⟨.inl rfl, .inl rfl, .inl rfl, .inl rfl, .inl rfl, .inl rfl, .inl rfl, .inl rfl, .inl rfl, trivial⟩)) (by kernel_rfl) (by kernel_rfl) (by kernel_rfl) (by rfl) (fun _ _ _ h => h) (fun W => y_nilCheck ha64 rfl) ?_
          clear ha64 a64; intro a65 ha65
          refine d_yg 18 ha65 rfl rfl rfl rfl rfl (fun _ => (m31.to ⟨.inl rfl, .inl rfl, .inl rfl, .inl rfl, .inl rfl, .inl rfl, .inl rfl, .inl rfl, .inl rfl, trivial⟩)) (by kernel_rfl) (by kernel_rfl) (by kernel_rfl) (by rfl) (fun _ _ _ h => h) (fun W => y_fieldAddr ha65 (off := 0) rfl Try.underlying56 rfl (s := 4) (by kernel_rfl) rfl) ?_
          clear ha65 a65; intro a66 ha66
          refine d_yg 19 ha66 rfl rfl rfl rfl rfl (fun _ => (m31.to ⟨.inl rfl, .inl rfl, .inl rfl, .inl rfl, .inl rfl, .inl rfl, .inl rfl, .inl rfl, .inl rfl, trivial⟩)) (by kernel_rfl) (by kernel_rfl) (by kernel_rfl) (by rfl) (fun _ _ _ h => h) (fun W => y_move ha66 rfl) ?_
          clear ha66 a66; intro a67 ha67
          refine d_yg 20 ha67 rfl rfl rfl rfl rfl (fun _ => (m31.to ⟨.inl rfl, .inl rfl, .inl rfl, .inl rfl, .inl rfl, .inl rfl, .inl rfl, .inl rfl, .inl rfl, trivial⟩)) (by kernel_rfl) (by kernel_rfl) (by kernel_rfl) (by rfl) (fun _ _ _ h => h) (fun W => y_idx ha67 rfl rfl Try.underlying29 sz32fo (0) rfl (by rw [List.length_map]; omega)) ?_
          clear ha67 a67; intro a68 ha68
          refine d_hg 21 ha68 rfl rfl rfl rfl rfl (m31.to ⟨.inl rfl, .inl rfl, .inl rfl, .inl rfl, .inl rfl, .inl rfl, .inl rfl, .inl rfl, .inl rfl, trivial⟩) (by kernel_rfl) (by kernel_rfl) (by kernel_rfl) (by kernel_rfl) (by kernel_rfl) (fun _ _ _ h => h) (fun W hW => y_loadCR ha68 hW (i := 202) rfl rfl Try.underlying32 rfl sz32fo) ?_
          clear ha68 a68; intro a69 ha69
          refine stepE_only 22 rfl (by kernel_rfl) (wantedG ha69 rfl rfl rfl rfl) (fun K hK => ?_)
          refine e_call ha69 Try.func35 rfl rfl rfl rfl (has_any _ _ _ _ _ _ _ _ _ _ _ _ _ _ _ _ _ (m31.ok 1 _ rfl : Res.ok _ _ _ _ (.box _ _ _)).1 ((m31.ok 2 _ rfl : Res.ok _ _ _ _ (.seg _ _ _ _)).1.rd (S' := fun _ => True) (fun _ _ _ => trivial) (fun _ _ => trivial)) (by omega) (by first | omega | (simp; omega) | simp)) ?_
          rintro e w70 ⟨rfl, hb70⟩
          have m71 := m31.later hb70
          clear m31
          clear hb70
          refine ⟨_, rfl, fun a72 ha72 => ?_⟩; clear ha69 a69
          refine hK _ _ (m71.to ⟨.inl rfl, .inl rfl, .inl rfl, .inl rfl, .inl rfl, .inl rfl, .inl rfl, .inl rfl, .inl rfl, trivial⟩) ?_; clear hK K
          refine d_yg 23 ha72 rfl rfl rfl rfl rfl (fun _ => (m71.to ⟨.inl rfl, .inl rfl, .inl rfl, .inl rfl, .inl rfl, .inl rfl, .inl rfl, .inl rfl, .inl rfl, trivial⟩)) (by kernel_rfl) (by kernel_rfl) (by kernel_rfl) (by rfl) (fun _ _ _ h => h) (fun W => y_pickF ha72 rfl rfl) ?_
          clear ha72 a72; intro a73 ha73
          refine d_y 24 ha73 rfl rfl (fun _ => (m71.to ⟨.inl rfl, .inl rfl, .inl rfl, .inl rfl, .inl rfl, .inl rfl, .inl rfl, .inl rfl, .inl rfl, trivial⟩)) (by kernel_rfl) (by kernel_rfl) (by kernel_rfl) (by rfl) (fun _ _ _ h => h) (fun W => y_pickT ha73 rfl rfl) ?_
          clear ha73 a73; intro a74 ha74
          refine wpAnyE_done (by kernel_rfl) ?_ _
          refine hK6 _ _ ?_; clear hK6; try clear K6
          refine bool_cases ha74 (t := 73) rfl (fun hb75 ha75 => ?_) (fun hb75 ha75 => ?_)
          · skip
            clear ha74
            try simp only [decide_eq_true_eq, decide_eq_false_iff_not, Bool.not_eq_true, Bool.not_eq_false, Bool.not_eq_eq_eq_not, Bool.not_true, Bool.not_false, Bool.not_not, Int.not_lt, Int.not_le, ne_eq, Decidable.not_not] at hb75
            refine wp_cond_true (ha75.ev (x := .tmp 73) rfl) ?_
            refine wp_skip ?_
            refine hK5 _ _ ?_; clear hK5; try clear K5
            refine wp_block ?_
            have ha76 : Has 95 [(0, _), (3, _), (11, _), (64, _), (73, _)] a74 := ha75.only [0, 3, 11, 64, 73]; clear ha75
            refine wp_region_lit ?_
            refine st_y ha76 rfl (y_move ha76 rfl) ?_
            clear ha76 a74; intro a77 ha77
            have m78 := m71.dropR (i := 7) rfl 1 (by rw [List.length_map]; omega) 204 rfl; clear m71
            refine st_y ha77 rfl (y_sliceLn ha77 1 rfl rfl Try.underlying29 sz32fo rfl (by rw [List.length_map]; omega)) ?_
            clear ha77 a77; intro a79 ha79
            refine st_y ha79 rfl (y_assign ha79 rfl) ?_
            clear ha79 a79; intro a80 ha80
            refine wpList_nil ?_
            show ∃ n', n' < _ ∧ _
            have hd1 : (l2.map entD).drop 1 = ((ls.take k).drop (n + 1)).map entD := by rw [← hl2, ← List.map_drop, List.drop_drop]
            have hd2 : (l2.map entD).length - 1 = (((ls.take k).drop (n + 1)).map entD).length := by rw [← hd1, List.length_drop]
            rw [hd1, hd2] at m78
            rw [hd2] at ha80
            exact ⟨k - (n + 1), by omega, n + 1, _, _, by omega, rfl, skip_snoc hsk hen (.inr hb75), ha80.only [0, 3, 11], m78.ren [(1, 1), (2, 2), (3, 3), (4, 4), (7, 204)] (by decide)⟩
          · skip
            clear ha74
            try simp only [decide_eq_true_eq, decide_eq_false_iff_not, Bool.not_eq_true, Bool.not_eq_false, Bool.not_eq_eq_eq_not, Bool.not_true, Bool.not_false, Bool.not_not, Int.not_lt, Int.not_le, ne_eq, Decidable.not_not] at hb75
            refine wp_cond_false (ha75.ev (x := .tmp 73) rfl) ?_
            refine wp_exit ?_
            refine hK4 _ _ ?_; clear hK4; try clear K4
            refine wp_seq_k (fun K7 hK7 => ?_)
            refine wp_seq_k (fun K8 hK8 => ?_)
            have ha81 : Has 95 [(0, _), (3, _), (11, _), (64, _), (73, _)] a74 := ha75.only [0, 3, 11, 64, 73]; clear ha75
            refine wp_region_lit ?_
            refine st_y ha81 rfl (y_move ha81 rfl) ?_
            clear ha81 a74; intro a82 ha82
            refine st_y ha82 rfl (y_len ha82 rfl Try.underlying29) ?_
            clear ha82 a82; intro a83 ha83
            refine st_y ha83 rfl (y_gtr ha83 rfl rfl) ?_
            clear ha83 a83; intro a84 ha84
            refine wpList_nil ?_
            refine hK8 _ _ ?_; clear hK8; try clear K8
            refine bool_cases ha84 (t := 78) rfl (fun hb85 ha85 => ?_) (fun hb85 ha85 => ?_)
            rotate_left
            · exact absurd hb85 (fun h => of_decide_eq_false h (by rw [List.length_map]; omega))
            clear ha84 hb85
            refine wp_cond_true (ha85.ev (x := .tmp 78) rfl) ?_
            refine wp_seq_k (fun K9 hK9 => ?_)
            obtain ⟨b86, o86, vs86, hp86, hR86, ho86, m86⟩ := m71.openR (i := 7) rfl (0) (r := [.v (.int .i64 ei), .v (.int .i64 et), .v (.int .i64 ek), .ns .u8 ed]) (ent_get hes) 204 rfl
            cases hp86; clear m71 ho86
            rcases hR86 with _ | ⟨hd86_0, _ | ⟨hd86_1, _ | ⟨hd86_2, _ | ⟨hd86_3, _ | _⟩⟩⟩⟩
            obtain rfl := hd86_0.v_out
            clear hd86_0
            obtain rfl := hd86_1.v_out
            clear hd86_1
            obtain rfl := hd86_2.v_out
            clear hd86_2
            obtain ⟨p87, c87, hv87, hc87⟩ := hd86_3.ns_shape; subst hv87
            have m87 := m86.dat 205 rfl (hd86_3.cast (fun _ h => (free_add rfl h))); clear m86 hd86_3
            have hok2 : EntsOk l2 := fun e he => hok e (by rw [← hl2] at he; exact List.mem_of_mem_take (List.mem_of_mem_drop he))
            have m88 : MemOk _ _ [(1, _), (2, _), (3, _), (4, _), (7, _), (200, _), (201, _), (202, _), (203, _), (204, _), (205, _)] _ := m87.only [1, 2, 3, 4, 7, 200, 201, 202, 203, 204, 205]; clear m87
            refine region_m 7 (B := [(1, _), (2, _), (3, _), (4, _), (7, _), (200, _), (201, _), (202, _), (203, _), (204, _), (205, _)]) (m88.to ⟨.inl rfl, .inl rfl, .inl rfl, .inl rfl, .inl rfl, .inl rfl, .inl rfl, .inl rfl, .inl rfl, .inl rfl, .inl rfl, trivial⟩) m88 (by kernel_rfl) (fun w89 mB89 m89 => ?_); clear m88 mB89
            refine d_y 0 ha85 rfl rfl (fun _ => (m89.to ⟨.inl rfl, .inl rfl, .inl rfl, .inl rfl, .inl rfl, .inl rfl, .inl rfl, .inl rfl, .inl rfl, .inl rfl, .inl rfl, trivial⟩)) (by kernel_rfl) (by kernel_rfl) (by kernel_rfl) (by rfl) (fun _ _ _ h => h) (fun W => y_move ha85 rfl) ?_
            clear ha85 a84; intro a90 ha90
            refine d_y 1 ha90 rfl rfl (fun _ => (m89.to ⟨.inl rfl, .inl rfl, .inl rfl, .inl rfl, .inl rfl, .inl rfl, .inl rfl, .inl rfl, .inl rfl, .inl rfl, .inl rfl, trivial⟩)) (by kernel_rfl) (by kernel_rfl) (by kernel_rfl) (by rfl) (fun _ _ _ h => h) (fun W => y_nilCheck ha90 rfl) ?_
            clear ha90 a90; intro a91 ha91
            refine d_y 2 ha91 rfl rfl (fun _ => (m89.to ⟨.inl rfl, .inl rfl, .inl rfl, .inl rfl, .inl rfl, .inl rfl, .inl rfl, .inl rfl, .inl rfl, .inl rfl, .inl rfl, trivial⟩)) (by kernel_rfl) (by kernel_rfl) (by kernel_rfl) (by rfl) (fun _ _ _ h => h) (fun W => y_fieldAddr ha91 (off := 0) rfl Try.underlying56 rfl (s := 4) (by kernel_rfl) rfl) ?_
            clear ha91 a91; intro a92 ha92
            refine d_y 3 ha92 rfl rfl (fun _ => (m89.to ⟨.inl rfl, .inl rfl, .inl rfl, .inl rfl, .inl rfl, .inl rfl, .inl rfl, .inl rfl, .inl rfl, .inl rfl, .inl rfl, trivial⟩)) (by kernel_rfl) (by kernel_rfl) (by kernel_rfl) (by rfl) (fun _ _ _ h => h) (fun W => y_move ha92 rfl) ?_
            clear ha92 a92; intro a93 ha93
            refine d_y 4 ha93 rfl rfl (fun _ => (m89.to ⟨.inl rfl, .inl rfl, .inl rfl, .inl rfl, .inl rfl, .inl rfl, .inl rfl, .inl rfl, .inl rfl, .inl rfl, .inl rfl, trivial⟩)) (by kernel_rfl) (by kernel_rfl) (by kernel_rfl) (by rfl) (fun _ _ _ h => h) (fun W => y_idx ha93 rfl rfl Try.underlying29 sz32fo (0) rfl (by rw [List.length_map]; omega)) ?_
            clear ha93 a93; intro a94 ha94
            refine d_y 5 ha94 rfl rfl (fun _ => (m89.to ⟨.inl rfl, .inl rfl, .inl rfl, .inl rfl, .inl rfl, .inl rfl, .inl rfl, .inl rfl, .inl rfl, .inl rfl, .inl rfl, trivial⟩)) (by kernel_rfl) (by kernel_rfl) (by kernel_rfl) (by rfl) (fun _ _ _ h => h) (fun W => y_fieldAddrQ ha94 0 rfl Try.underlying32 rfl (s := 0) (by kernel_rfl) rfl) ?_
            clear ha94 a94; intro a95 ha95
            refine d_r 6 ha95 rfl rfl (m89.to ⟨.inl rfl, .inl rfl, .inl rfl, .inl rfl, .inl rfl, .inl rfl, .inl rfl, .inl rfl, .inl rfl, .inl rfl, .inl rfl, trivial⟩) (by kernel_rfl) (by kernel_rfl) (by kernel_rfl) (by kernel_rfl) (by kernel_rfl) (fun _ _ _ h => h) (fun W hW => y_loadC0 ha95 hW (i := 204) rfl rfl Try.underlying3 rfl) ?_
            clear ha95 a95; intro a96 ha96
            refine stepE_end 7 rfl (by kernel_rfl) rfl (by rfl) (fun K hK => ?_)
            refine e_call ha96 Try.func36 rfl rfl rfl rfl (cut_any _ _ _ _ cf d es _ _ _ _ _ _ ei _ (by omega) (by omega) (m89.into [(1, 1), (2, 2), (3, 3), (4, 4)] (by decide) rfl)) ?_
            rintro e w97 ⟨rfl, hm97⟩
            have mx97 := m89.back hm97 [(1, 1), (2, 2), (3, 3), (4, 4)] (by decide); clear hm97 m89
            have m97 : MemOk _ _ [(1, _), (2, _), (3, _), (4, _), (7, _), (200, _), (201, _), (202, _), (203, _), (204, _), (205, _)] _ := mx97.only [1, 2, 3, 4, 7, 200, 201, 202, 203, 204, 205]; clear mx97
            refine ⟨_, rfl, fun a98 ha98 => ?_⟩; clear ha96 a96
            refine hK _ _ ?_; clear hK K
            refine wpAnyE_done (by kernel_rfl) ?_ _
            refine hK9 _ _ ?_; clear hK9; try clear K9
            have ha99 : Has 95 [(0, _), (3, _), (11, _), (64, _), (73, _)] a98 := ha98.only [0, 3, 11, 64, 73]; clear ha98
            refine wp_region_lit ?_
            refine st_y ha99 rfl (y_move ha99 rfl) ?_
            clear ha99 a98; intro a100 ha100
            refine st_y ha100 rfl (y_nilCheck ha100 rfl) ?_
            clear ha100 a100; intro a101 ha101
            refine st_y ha101 rfl (y_fieldAddr ha101 (off := 0) rfl Try.underlying56 rfl (s := 4) (by kernel_rfl) rfl) ?_
            clear ha101 a101; intro a102 ha102
            refine st_y ha102 rfl (y_move ha102 rfl) ?_
            clear ha102 a102; intro a103 ha103
            have m104 := m97.dat 206 rfl (m97.rd (i := 7) rfl); clear m97
            refine wpList_plain rfl (fun K hK => ?_)
            refine e_call ha103 Try.func31 rfl rfl rfl rfl (grow_fr _ _ _ _ cf d (cutL bi es ei) l2 _ _ _ _ _ _ _ _ _ _ (by omega) (by have := cutL_len bi es ei; omega) hok2 (m104.into [(1, 1), (2, 2), (3, 3), (4, 4), (5, 206)] (by decide) rfl)) ?_
            rintro e w105 ⟨gk, pl105, cl105, rfl, hrun, hm105⟩
            have mx105 := m104.back hm105 [(1, 1), (2, 2), (3, 3), (4, 4)] (by decide); clear hm105 m104
            have m105 : MemOk _ _ [(1, _), (2, _), (3, _), (4, _), (7, _), (200, _), (201, _), (202, _), (203, _), (204, _), (205, _)] _ := mx105.only [1, 2, 3, 4, 7, 200, 201, 202, 203, 204, 205]; clear mx105
            refine ⟨_, rfl, fun a106 ha106 => ?_⟩; clear ha103 a103
            refine hK _ _ ?_; clear hK K
            refine wpList_nil ?_
            refine hK7 _ _ ?_; clear hK7; try clear K7
            refine wp_seq_k (fun K10 hK10 => ?_)
            refine wp_region_lit ?_
            refine st_y ha106 rfl (y_move ha106 rfl) ?_
            clear ha106 a106; intro a107 ha107
            refine wpList_plain rfl (fun K hK => ?_)
            refine e_call ha107 Try.func37 rfl rfl rfl rfl (list_any l2 _ _ _ _ ((m105.rd (i := 7) rfl).any) (by omega) (fun e he => hok e (by rw [← hl2] at he; exact List.mem_of_mem_take (List.mem_of_mem_drop he)))) ?_
            rintro e w108 ⟨p108, c108, rfl, hd108, hb108⟩
            have m109 := m105.callF 207 rfl hb108 hd108
            clear m105
            clear hb108 hd108
            refine ⟨_, rfl, fun a110 ha110 => ?_⟩; clear ha107 a107
            refine hK _ _ ?_; clear hK K
            refine st_y ha110 rfl (y_move ha110 rfl) ?_
            clear ha110 a110; intro a111 ha111
            refine st_y ha111 rfl (y_assign ha111 rfl) ?_
            clear ha111 a111; intro a112 ha112
            refine st_y ha112 rfl (y_assign ha112 rfl) ?_
            clear ha112 a112; intro a113 ha113
            refine st_y ha113 rfl (y_assign ha113 rfl) ?_
            clear ha113 a113; intro a114 ha114
            refine wpList_nil ?_
            refine hK10 _ _ ?_; clear hK10; try clear K10
            refine wp_ret ?_
            try dsimp only [Exit.then, Exit.inBlock]
            refine (ret3 (fn := Try.f13) ha114 rfl rfl rfl rfl ?_)
            subst hl2
            exact ⟨k, n, _, _, _, _, _, rfl, ⟨hk1, hk2, hk3⟩, hnk, hsk, .inr ⟨hlt, fol_no2 hen hb49 hb75, gk, by rw [hen]; exact hrun, by rw [hen]⟩, m109.ren [(1, 1), (2, 2), (3, 3), (4, 4), (5, 207)] (by decide)⟩
      · skip
        subst heq
        have hr7 : ((ls.take n).drop n).length = 0 := by simp
        obtain ⟨l2, hl2⟩ : ∃ x, (ls.take n).drop n = x := ⟨_, rfl⟩
        rw [hl2] at hr7 ha25 m25
        refine wp_seq_k (fun K11 hK11 => ?_)
        refine wp_seq_k (fun K12 hK12 => ?_)
        have m115 : MemOk _ _ [(1, _), (2, _), (3, _), (4, _), (7, _)] _ := m25.only [1, 2, 3, 4, 7]; clear m25
        refine region_m 25 (B := [(1, _), (2, _), (3, _), (4, _), (7, _)]) (m115.to ⟨.inl rfl, .inl rfl, .inl rfl, .inl rfl, .inl rfl, trivial⟩) m115 (by kernel_rfl) (fun w116 mB116 m116 => ?_); clear m115 mB116
        refine d_y 0 ha25 rfl rfl (fun _ => (m116.to ⟨.inl rfl, .inl rfl, .inl rfl, .inl rfl, .inl rfl, trivial⟩)) (by kernel_rfl) (by kernel_rfl) (by kernel_rfl) (by rfl) (fun _ _ _ h => h) (fun W => y_move ha25 rfl) ?_
        clear ha25 a25; intro a117 ha117
        refine d_y 1 ha117 rfl rfl (fun _ => (m116.to ⟨.inl rfl, .inl rfl, .inl rfl, .inl rfl, .inl rfl, trivial⟩)) (by kernel_rfl) (by kernel_rfl) (by kernel_rfl) (by rfl) (fun _ _ _ h => h) (fun W => y_len ha117 rfl Try.underlying29) ?_
        clear ha117 a117; intro a118 ha118
        refine d_y 2 ha118 rfl rfl (fun _ => (m116.to ⟨.inl rfl, .inl rfl, .inl rfl, .inl rfl, .inl rfl, trivial⟩)) (by kernel_rfl) (by kernel_rfl) (by kernel_rfl) (by rfl) (fun _ _ _ h => h) (fun W => y_gtr ha118 rfl rfl) ?_
        clear ha118 a118; intro a119 ha119
        refine d_y 3 ha119 rfl rfl (fun _ => (m116.to ⟨.inl rfl, .inl rfl, .inl rfl, .inl rfl, .inl rfl, trivial⟩)) (by kernel_rfl) (by kernel_rfl) (by kernel_rfl) (by rfl) (fun _ _ _ h => h) (fun W => y_move ha119 rfl) ?_
        clear ha119 a119; intro a120 ha120
        refine bool_cases ha120 (t := 52) rfl (fun hb121 ha121 => ?_) (fun hb121 ha121 => ?_)
        · exact absurd hb121 (fun h => absurd (of_decide_eq_true h) (by rw [List.length_map]; omega))
        clear ha120 hb121
        refine d_skip 4 ha121 rfl rfl rfl rfl rfl (fun _ => (m116.to ⟨.inl rfl, .inl rfl, .inl rfl, .inl rfl, .inl rfl, trivial⟩)) (by kernel_rfl) (by kernel_rfl) (by kernel_rfl) (by rfl) (fun _ _ _ h => h) ?_
        clear ha121 a120; intro a122 ha122
        refine d_skip 5 ha122 rfl rfl rfl rfl rfl (fun _ => (m116.to ⟨.inl rfl, .inl rfl, .inl rfl, .inl rfl, .inl rfl, trivial⟩)) (by kernel_rfl) (by kernel_rfl) (by kernel_rfl) (by rfl) (fun _ _ _ h => h) ?_
        clear ha122 a122; intro a123 ha123
        refine d_skip 6 ha123 rfl rfl rfl rfl rfl (fun _ => (m116.to ⟨.inl rfl, .inl rfl, .inl rfl, .inl rfl, .inl rfl, trivial⟩)) (by kernel_rfl) (by kernel_rfl) (by kernel_rfl) (by rfl) (fun _ _ _ h => h) ?_
        clear ha123 a123; intro a124 ha124
        refine d_skip 7 ha124 rfl rfl rfl rfl rfl (fun _ => (m116.to ⟨.inl rfl, .inl rfl, .inl rfl, .inl rfl, .inl rfl, trivial⟩)) (by kernel_rfl) (by kernel_rfl) (by kernel_rfl) (by rfl) (fun _ _ _ h => h) ?_
        clear ha124 a124; intro a125 ha125
        refine d_skip 8 ha125 rfl rfl rfl rfl rfl (fun _ => (m116.to ⟨.inl rfl, .inl rfl, .inl rfl, .inl rfl, .inl rfl, trivial⟩)) (by kernel_rfl) (by kernel_rfl) (by kernel_rfl) (by rfl) (fun _ _ _ h => h) ?_
        clear ha125 a125; intro a126 ha126
        refine d_skip 9 ha126 rfl rfl rfl rfl rfl (fun _ => (m116.to ⟨.inl rfl, .inl rfl, .inl rfl, .inl rfl, .inl rfl, trivial⟩)) (by kernel_rfl) (by kernel_rfl) (by kernel_rfl) (by rfl) (fun _ _ _ h => h) ?_
        clear ha126 a126; intro a127 ha127
        refine d_skip 10 ha127 rfl rfl rfl rfl rfl (fun _ => (m116.to ⟨.inl rfl, .inl rfl, .inl rfl, .inl rfl, .inl rfl, trivial⟩)) (by kernel_rfl) (by kernel_rfl) (by kernel_rfl) (by rfl) (fun _ _ _ h => h) ?_
        clear ha127 a127; intro a128 ha128
        refine d_skip 11 ha128 rfl rfl rfl rfl rfl (fun _ => (m116.to ⟨.inl rfl, .inl rfl, .inl rfl, .inl rfl, .inl rfl, trivial⟩)) (by kernel_rfl) (by kernel_rfl) (by kernel_rfl) (by rfl) (fun _ _ _ h => h) ?_
        clear ha128 a128; intro a129 ha129
        refine d_skip 12 ha129 rfl rfl rfl rfl rfl (fun _ => (m116.to ⟨.inl rfl, .inl rfl, .inl rfl, .inl rfl, .inl rfl, trivial⟩)) (by kernel_rfl) (by kernel_rfl) (by kernel_rfl) (by rfl) (fun _ _ _ h => h) ?_
        clear ha129 a129; intro a130 ha130
        refine d_skip 13 ha130 rfl rfl rfl rfl rfl (fun _ => (m116.to ⟨.inl rfl, .inl rfl, .inl rfl, .inl rfl, .inl rfl, trivial⟩)) (by kernel_rfl) (by kernel_rfl) (by kernel_rfl) (by rfl) (fun _ _ _ h => h) ?_
        clear ha130 a130; intro a131 ha131
        refine d_skip 14 ha131 rfl rfl rfl rfl rfl (fun _ => (m116.to ⟨.inl rfl, .inl rfl, .inl rfl, .inl rfl, .inl rfl, trivial⟩)) (by kernel_rfl) (by kernel_rfl) (by kernel_rfl) (by rfl) (fun _ _ _ h => h) ?_
        clear ha131 a131; intro a132 ha132
        refine d_skip 15 ha132 rfl rfl rfl rfl rfl (fun _ => (m116.to ⟨.inl rfl, .inl rfl, .inl rfl, .inl rfl, .inl rfl, trivial⟩)) (by kernel_rfl) (by kernel_rfl) (by kernel_rfl) (by rfl) (fun _ _ _ h => h) ?_
        clear ha132 a132; intro a133 ha133
        refine d_skipU 16 ha133 rfl rfl rfl rfl rfl (fun _ => (m116.to ⟨.inl rfl, .inl rfl, .inl rfl, .inl rfl, .inl rfl, trivial⟩)) (by kernel_rfl) (by kernel_rfl) (by kernel_rfl) (by rfl) (fun _ _ _ h => h) ?_
        clear ha133 a133; intro a134 ha134
        refine d_skipU 17 ha134 rfl rfl rfl rfl rfl (fun _ => (m116.to ⟨.inl rfl, .inl rfl, .inl rfl, .inl rfl, .inl rfl, trivial⟩)) (by kernel_rfl) (by kernel_rfl) (by kernel_rfl) (by rfl) (fun _ _ _ h => h) ?_
        clear ha134 a134; intro a135 ha135
        refine d_skipU 18 ha135 rfl rfl rfl rfl rfl (fun _ => (m116.to ⟨.inl rfl, .inl rfl, .inl rfl, .inl rfl, .inl rfl, trivial⟩)) (by kernel_rfl) (by kernel_rfl) (by kernel_rfl) (by rfl) (fun _ _ _ h => h) ?_
        clear ha135 a135; intro a136 ha136
        refine d_skipU 19 ha136 rfl rfl rfl rfl rfl (fun _ => (m116.to ⟨.inl rfl, .inl rfl, .inl rfl, .inl rfl, .inl rfl, trivial⟩)) (by kernel_rfl) (by kernel_rfl) (by kernel_rfl) (by rfl) (fun _ _ _ h => h) ?_
        clear ha136 a136; intro a137 ha137
        refine d_skipU 20 ha137 rfl rfl rfl rfl rfl (fun _ => (m116.to ⟨.inl rfl, .inl rfl, .inl rfl, .inl rfl, .inl rfl, trivial⟩)) (by kernel_rfl) (by kernel_rfl) (by kernel_rfl) (by rfl) (fun _ _ _ h => h) ?_
        clear ha137 a137; intro a138 ha138
        refine d_skipU 21 ha138 rfl rfl rfl rfl rfl (fun _ => (m116.to ⟨.inl rfl, .inl rfl, .inl rfl, .inl rfl, .inl rfl, trivial⟩)) (by kernel_rfl) (by kernel_rfl) (by kernel_rfl) (by rfl) (fun _ _ _ h => h) ?_
        clear ha138 a138; intro a139 ha139
        refine d_skipU 22 ha139 rfl rfl rfl rfl rfl (fun _ => (m116.to ⟨.inl rfl, .inl rfl, .inl rfl, .inl rfl, .inl rfl, trivial⟩)) (by kernel_rfl) (by kernel_rfl) (by kernel_rfl) (by rfl) (fun _ _ _ h => h) ?_
        clear ha139 a139; intro a140 ha140
        refine d_skip 23 ha140 rfl rfl rfl rfl rfl (fun _ => (m116.to ⟨.inl rfl, .inl rfl, .inl rfl, .inl rfl, .inl rfl, trivial⟩)) (by kernel_rfl) (by kernel_rfl) (by kernel_rfl) (by rfl) (fun _ _ _ h => h) ?_
        clear ha140 a140; intro a141 ha141
        refine d_y 24 ha141 rfl rfl (fun _ => (m116.to ⟨.inl rfl, .inl rfl, .inl rfl, .inl rfl, .inl rfl, trivial⟩)) (by kernel_rfl) (by kernel_rfl) (by kernel_rfl) (by rfl) (fun _ _ _ h => h) (fun W => y_pickF ha141 rfl rfl) ?_
        clear ha141 a141; intro a142 ha142
        refine wpAnyE_done (by kernel_rfl) ?_ _
        refine hK12 _ _ ?_; clear hK12; try clear K12
        refine wp_cond_false (ha142.ev (x := .tmp 73) rfl) ?_
        refine wp_exit ?_
        refine hK4 _ _ ?_; clear hK4; try clear K4
        refine wp_seq_k (fun K13 hK13 => ?_)
        refine wp_seq_k (fun K14 hK14 => ?_)
        have ha143 : Has 95 [(0, _), (3, _), (11, _), (64, _), (73, _)] a142 := ha142.only [0, 3, 11, 64, 73]; clear ha142
        refine wp_region_lit ?_
        refine st_y ha143 rfl (y_move ha143 rfl) ?_
        clear ha143 a142; intro a144 ha144
        refine st_y ha144 rfl (y_len ha144 rfl Try.underlying29) ?_
        clear ha144 a144; intro a145 ha145
        refine st_y ha145 rfl (y_gtr ha145 rfl rfl) ?_
        clear ha145 a145; intro a146 ha146
        refine wpList_nil ?_
        refine hK14 _ _ ?_; clear hK14; try clear K14
        refine bool_cases ha146 (t := 78) rfl (fun hb147 ha147 => ?_) (fun hb147 ha147 => ?_)
        · exact absurd hb147 (fun h => absurd (of_decide_eq_true h) (by rw [List.length_map]; omega))
        clear ha146 hb147
        refine wp_cond_false (ha147.ev (x := .tmp 78) rfl) ?_
        refine wp_skip ?_
        refine hK13 _ _ ?_; clear hK13; try clear K13
        refine wp_seq_k (fun K15 hK15 => ?_)
        refine wp_region_lit ?_
        refine st_y ha147 rfl (y_move ha147 rfl) ?_
        clear ha147 a146; intro a148 ha148
        refine wpList_plain rfl (fun K hK => ?_)
        refine e_call ha148 Try.func37 rfl rfl rfl rfl (list_any l2 _ _ _ _ ((m116.rd (i := 7) rfl).any) (by omega) (fun e he => hok e (by rw [← hl2] at he; exact List.mem_of_mem_take (List.mem_of_mem_drop he)))) ?_
        rintro e w149 ⟨p149, c149, rfl, hd149, hb149⟩
        have m150 := m116.callF 200 rfl hb149 hd149
        clear m116
        clear hb149 hd149
        refine ⟨_, rfl, fun a151 ha151 => ?_⟩; clear ha148 a148
        refine hK _ _ ?_; clear hK K
        refine st_y ha151 rfl (y_move ha151 rfl) ?_
        clear ha151 a151; intro a152 ha152
        refine st_y ha152 rfl (y_assign ha152 rfl) ?_
        clear ha152 a152; intro a153 ha153
        refine st_y ha153 rfl (y_assign ha153 rfl) ?_
        clear ha153 a153; intro a154 ha154
        refine st_y ha154 rfl (y_assign ha154 rfl) ?_
        clear ha154 a154; intro a155 ha155
        refine wpList_nil ?_
        refine hK15 _ _ ?_; clear hK15; try clear K15
        refine wp_ret ?_
        try dsimp only [Exit.then, Exit.inBlock]
        refine (ret3 (fn := Try.f13) ha155 rfl rfl rfl rfl ?_)
        subst hl2
        exact ⟨n, n, _, _, _, _, _, rfl, ⟨hk1, hk2, hk3⟩, Nat.le_refl _, hsk, .inl ⟨rfl, rfl⟩, m150.ren [(1, 1), (2, 2), (3, 3), (4, 4), (5, 200)] (by decide)⟩
  refine wp_seq_k (fun K16 hK16 => ?_)
  refine wp_region_lit ?_
  refine st_y ha3 rfl (y_move ha3 rfl) ?_
  clear ha3 a3; intro a156 ha156
  refine st_y ha156 rfl (y_move ha156 rfl) ?_
  clear ha156 a156; intro a157 ha157
  refine st_y ha157 rfl (y_nilCheck ha157 rfl) ?_
  clear ha157 a157; intro a158 ha158
  refine st_y ha158 rfl (y_fieldAddr ha158 (off := 0) rfl Try.underlying56 rfl (s := 4) (by kernel_rfl) rfl) ?_
  clear ha158 a158; intro a159 ha159
  refine st_y ha159 rfl (y_fieldAddr ha159 (off := 0) rfl Try.underlying54 rfl (s := 3) (by kernel_rfl) rfl) ?_
  clear ha159 a159; intro a160 ha160
  refine st_y ha160 rfl (y_fieldAddr ha160 (off := 0) rfl Try.underlying28 rfl (s := 0) (by kernel_rfl) rfl) ?_
  clear ha160 a160; intro a161 ha161
  refine st_y ha161 rfl (y_loadB1 ha161 m0 (i := 1) rfl rfl rfl Try.underlying3 rfl) ?_
  clear ha161 a161; intro a162 ha162
  refine st_y ha162 rfl (y_geq ha162 rfl rfl) ?_
  clear ha162 a162; intro a163 ha163
  refine st_y ha163 rfl (y_move ha163 rfl) ?_
  clear ha163 a163; intro a164 ha164
  refine bool_cases ha164 (t := 20) rfl (fun hb165 ha165 => ?_) (fun hb165 ha165 => ?_)
  · skip
    clear ha164
    try simp only [decide_eq_true_eq, decide_eq_false_iff_not, Bool.not_eq_true, Bool.not_eq_false, Bool.not_eq_eq_eq_not, Bool.not_true, Bool.not_false, Bool.not_not, Int.not_lt, Int.not_le, ne_eq, Decidable.not_not] at hb165
    have hy2 := hyes hb165
    refine st_g ha165 rfl rfl rfl rfl (y_move ha165 rfl) ?_
    clear ha165 a164; intro a166 ha166
    refine st_g ha166 rfl rfl rfl rfl (y_move ha166 rfl) ?_
    clear ha166 a166; intro a167 ha167
    refine st_g ha167 rfl rfl rfl rfl (y_nilCheck ha167 rfl) ?_
    clear ha167 a167; intro a168 ha168
    refine st_g ha168 rfl rfl rfl rfl (y_fieldAddr ha168 (off := 0) rfl Try.underlying56 rfl (s := 4) (by kernel_rfl) rfl) ?_
    clear ha168 a168; intro a169 ha169
    refine st_ge ha169 rfl rfl rfl rfl (fun K hK => ?_)
    refine e_call ha169 Try.func25 rfl rfl rfl rfl (last_any _ _ _ _ _ _ _ _ _ (m0.ok 1 _ rfl : Res.ok _ _ _ _ (.box _ _ _)).1 (by omega) (by first | omega | (simp; omega) | simp)) ?_
    rintro e w170 ⟨rfl, hb170⟩
    have m171 := m0.later hb170
    clear m0
    clear hb170
    refine ⟨_, rfl, fun a172 ha172 => ?_⟩; clear ha169 a169
    refine hK _ _ ?_; clear hK K
    refine st_g ha172 rfl rfl rfl rfl (y_gtr ha172 rfl rfl) ?_
    clear ha172 a172; intro a173 ha173
    refine st_g ha173 rfl rfl rfl rfl (y_move ha173 rfl) ?_
    clear ha173 a173; intro a174 ha174
    refine bool_cases ha174 (t := 27) rfl (fun hb175 ha175 => ?_) (fun hb175 ha175 => ?_)
    · exact absurd hb175 (by simp; omega)
    clear ha174 hb175
    refine st_g ha175 rfl rfl rfl rfl (y_move ha175 rfl) ?_
    clear ha175 a174; intro a176 ha176
    refine st_g ha176 rfl rfl rfl rfl (y_move ha176 rfl) ?_
    clear ha176 a176; intro a177 ha177
    refine st_ge ha177 rfl rfl rfl rfl (fun K hK => ?_)
    refine e_call ha177 Try.func26 rfl rfl rfl rfl (term_any _ _ _ _ _ _ _ _ _ _ _ _ _ _ (m171.ok 1 _ rfl : Res.ok _ _ _ _ (.box _ _ _)).1 ((m171.ok 2 _ rfl : Res.ok _ _ _ _ (.seg _ _ _ _)).1.rd (S' := fun _ => True) (fun _ _ _ => trivial) (fun _ _ => trivial)) (by omega) (by first | omega | (simp; omega) | simp)) ?_
    rintro e w178 ⟨rfl, hb178⟩
    have m179 := m171.later hb178
    clear m171
    clear hb178
    refine ⟨_, rfl, fun a180 ha180 => ?_⟩; clear ha177 a177
    refine hK _ _ ?_; clear hK K
    refine st_g ha180 rfl rfl rfl rfl (y_move ha180 rfl) ?_
    clear ha180 a180; intro a181 ha181
    refine st_g ha181 rfl rfl rfl rfl (y_neq ha181 rfl rfl) ?_
    clear ha181 a181; intro a182 ha182
    refine st_g ha182 rfl rfl rfl rfl (y_pickF ha182 rfl rfl) ?_
    clear ha182 a182; intro a183 ha183
    refine st_y ha183 rfl (y_pickT ha183 rfl rfl) ?_
    clear ha183 a183; intro a184 ha184
    refine wpList_nil ?_
    refine hK16 _ _ ?_; clear hK16; try clear K16
    refine bool_cases ha184 (t := 34) rfl (fun hb185 ha185 => ?_) (fun hb185 ha185 => ?_)
    · exact absurd hb185 (by simp; exact hy2.2)
    clear ha184 hb185
    refine wp_cond_false (ha185.ev (x := .tmp 34) rfl) ?_
    refine wp_skip ?_
    exact hC1 _ _ ⟨ha185.only [0, 1, 3], m179.only [1, 2, 3, 4, 5]⟩
  · skip
    clear ha164
    try simp only [decide_eq_true_eq, decide_eq_false_iff_not, Bool.not_eq_true, Bool.not_eq_false, Bool.not_eq_eq_eq_not, Bool.not_true, Bool.not_false, Bool.not_not, Int.not_lt, Int.not_le, ne_eq, Decidable.not_not] at hb165
    refine st_skip ha165 rfl rfl rfl rfl ?_
    clear ha165 a164; intro a186 ha186
    refine st_skip ha186 rfl rfl rfl rfl ?_
    clear ha186 a186; intro a187 ha187
    refine st_skip ha187 rfl rfl rfl rfl ?_
    clear ha187 a187; intro a188 ha188
    refine st_skip ha188 rfl rfl rfl rfl ?_
    clear ha188 a188; intro a189 ha189
    refine st_skip ha189 rfl rfl rfl rfl ?_
    clear ha189 a189; intro a190 ha190
    refine st_skip ha190 rfl rfl rfl rfl ?_
    clear ha190 a190; intro a191 ha191
    refine st_skip ha191 rfl rfl rfl rfl ?_
    clear ha191 a191; intro a192 ha192
    refine st_skipU ha192 rfl rfl rfl rfl ?_
    clear ha192 a192; intro a193 ha193
    refine st_skipU ha193 rfl rfl rfl rfl ?_
    clear ha193 a193; intro a194 ha194
    refine st_skipU ha194 rfl rfl rfl rfl ?_
    clear ha194 a194; intro a195 ha195
    refine st_skipU ha195 rfl rfl rfl rfl ?_
    clear ha195 a195; intro a196 ha196
    refine st_skipU ha196 rfl rfl rfl rfl ?_
    clear ha196 a196; intro a197 ha197
    refine st_skip ha197 rfl rfl rfl rfl ?_
    clear ha197 a197; intro a198 ha198
    refine st_y ha198 rfl (y_pickF ha198 rfl rfl) ?_
    clear ha198 a198; intro a199 ha199
    refine wpList_nil ?_
    refine hK16 _ _ ?_; clear hK16; try clear K16
    refine wp_cond_false (ha199.ev (x := .tmp 34) rfl) ?_
    refine wp_skip ?_
    exact hC1 _ _ ⟨ha199.only [0, 1, 3], m0.only [1, 2, 3, 4, 5]⟩
theorem add_fr (X : Cx) (B : Nat) (bi bt : Int) (cf d : List Int) (es : List (Int × Int × Int × List Int)) (pc pd pl : Option Addr) (cc cd cl : Nat) (tm kd : Int) (dd : List Int) (pa : Option Addr) (ca : Nat) (w0 : World) (hbi : -1000000000000000000 ≤ bi ∧ bi ≤ 1000000000000000000) (hn : es.length ≤ 1000000) (hdd : dd.length ≤ 140737488351232) (m0 : MemOk X w0 [(1, .box B 56 [.int .i64 bi, .int .i64 bt, .slice pc cf.length cc, .slice pd d.length cd, .slice pl (es.map entD).length cl]), (2, .seg (.slice pl (es.map entD).length cl) 32 4 (es.map entD)), (3, .dat (.slice pc cf.length cc) (.ns .i64 cf)), (4, .dat (.slice pd d.length cd) (.ns .u8 d)), (5, .dat (.slice pa dd.length ca) (.ns .u8 dd))] w0) :
    Calls Try.prog 17 #[.pointer (some ⟨B, 0, none⟩), .int .i64 tm, .int .i64 kd, .slice pa dd.length ca] w0 fun e w' => ∃ (pl' : Option Addr) (cl' : Nat) (pr : Option Addr) (cr : Nat), e = .returned (.agg #[.int .i64 (bi + es.length + 1), .int .i64 tm, .int .i64 kd, .slice pr dd.length cr]) ∧ MemOk X w0 [(1, .box B 56 [.int .i64 bi, .int .i64 bt, .slice pc cf.length cc, .slice pd d.length cd, .slice pl' ((es ++ [(bi + es.length + 1, tm, kd, dd)]).map entD).length cl']), (2, .seg (.slice pl' ((es ++ [(bi + es.length + 1, tm, kd, dd)]).map entD).length cl') 32 4 ((es ++ [(bi + es.length + 1, tm, kd, dd)]).map entD)), (3, .dat (.slice pc cf.length cc) (.ns .i64 cf)), (4, .dat (.slice pd d.length cd) (.ns .u8 d)), (5, .dat (.slice pr dd.length cr) (.ns .u8 dd))] w' := by
  refine enter (fn := Try.f17) Try.func17 rfl Try.ntmps17 rfl (fun a0 ha0 => ?_)
  simp only [List.zipIdx_cons, List.zipIdx_nil, List.map_cons, List.map_nil, Nat.reduceAdd, Nat.zero_add] at ha0
  refine wp_seq_k (fun K0 hK0 => ?_)
  refine wp_region_lit ?_
  refine wpList_plain rfl (fun K hK => ?_)
  refine e_alloc ha0 m0 6 zc32ad rfl ?_
  clear ha0 a0 m0; intro g1 a2 w2 ha2 m2 hB2 hg2
  clear hB2 hg2
  refine hK _ _ ?_; clear hK K
  refine wpList_nil ?_
  refine hK0 _ _ ?_; clear hK0; try clear K0
  refine wp_seq_k (fun K1 hK1 => ?_)
  refine wp_region_lit ?_
  refine st_y ha2 rfl (y_move ha2 rfl) ?_
  clear ha2 a2; intro a3 ha3
  refine st_y ha3 rfl (y_nilCheck ha3 rfl) ?_
  clear ha3 a3; intro a4 ha4
  refine st_y ha4 rfl (y_fieldAddr ha4 (off := 0) rfl Try.underlying56 rfl (s := 4) (by kernel_rfl) rfl) ?_
  clear ha4 a4; intro a5 ha5
  refine wpList_plain rfl (fun K hK => ?_)
  refine e_call ha5 Try.func25 rfl rfl rfl rfl (last_any _ _ _ _ _ _ _ _ _ (m2.ok 1 _ rfl : Res.ok _ _ _ _ (.box _ _ _)).1 (by omega) (by first | omega | (simp; omega) | simp)) ?_
  rintro e w6 ⟨rfl, hb6⟩
  have m7 := m2.later hb6
  clear m2
  clear hb6
  refine ⟨_, rfl, fun a8 ha8 => ?_⟩; clear ha5 a5
  refine hK _ _ ?_; clear hK K
  refine st_y ha8 rfl (y_add ha8 rfl rfl (r := bi + es.length + 1) (by rw [List.length_map]; exact IntWalk.i64_in _ (by omega))) ?_
  clear ha8 a8; intro a9 ha9
  refine st_y ha9 rfl (y_move ha9 rfl) ?_
  clear ha9 a9; intro a10 ha10
  refine st_y ha10 rfl (y_move ha10 rfl) ?_
  clear ha10 a10; intro a11 ha11
  refine st_y ha11 rfl (y_move ha11 rfl) ?_
  clear ha11 a11; intro a12 ha12
  refine wpList_plain rfl (fun K hK => ?_)
  refine e_call ha12 Try.func39 rfl rfl rfl rfl (plainB_any dd _ _ _ ((m7.rd (i := 5) rfl).any) hdd) ?_
  rintro e w13 ⟨p13, c13, rfl, hd13, hb13⟩
  have m14 := m7.callF 7 rfl hb13 hd13
  clear m7
  clear hb13 hd13
  refine ⟨_, rfl, fun a15 ha15 => ?_⟩; clear ha12 a12
  refine hK _ _ ?_; clear hK K
  refine st_y ha15 rfl (y_build ha15 rfl zc32ad fl32ad rfl (by dsimp only [setL, List.set] <;> rfl)) ?_
  clear ha15 a15; intro a16 ha16
  refine wpList_plain rfl (fun K hK => ?_)
  refine e_alloc ha16 m14 8 zc32ad rfl ?_
  clear ha16 a16 m14; intro g17 a18 w18 ha18 m18 hB18 hg18
  clear hB18 hg18
  refine hK _ _ ?_; clear hK K
  refine wpList_plain rfl (fun K hK => ?_)
  refine e_storeW ha18 m18 8 rfl rfl rfl rfl rfl sz32ad ?_
  clear m18; intro w19 m19 hB19
  clear hB19
  refine hK _ _ ?_; clear hK K
  refine wpList_nil ?_
  refine hK1 _ _ ?_; clear hK1; try clear K1
  refine wp_seq_k (fun K2 hK2 => ?_)
  have ha20 : Has 34 [(0, _), (8, _), (9, _)] a18 := ha18.only [0, 8, 9]; clear ha18
  have m21 : MemOk _ _ [(1, _), (2, _), (3, _), (4, _), (5, _), (6, _), (7, _), (8, _)] _ := m19.only [1, 2, 3, 4, 5, 6, 7, 8]; clear m19
  refine region_m 8 (B := [(1, _), (2, _), (3, _), (4, _), (5, _), (6, _), (7, _), (8, _)]) (m21.to ⟨.inl rfl, .inl rfl, .inl rfl, .inl rfl, .inl rfl, .inl rfl, .inl rfl, .inl rfl, trivial⟩) m21 (by kernel_rfl) (fun w22 mB22 m22 => ?_); clear m21 mB22
  refine d_y 0 ha20 rfl rfl (fun _ => (m22.to ⟨.inl rfl, .inl rfl, .inl rfl, .inl rfl, .inl rfl, .inl rfl, .inl rfl, .inl rfl, trivial⟩)) (by kernel_rfl) (by kernel_rfl) (by kernel_rfl) (by rfl) (fun _ _ _ h => h) (fun W => y_move ha20 rfl) ?_
  clear ha20 a18; intro a23 ha23
  refine d_y 1 ha23 rfl rfl (fun _ => (m22.to ⟨.inl rfl, .inl rfl, .inl rfl, .inl rfl, .inl rfl, .inl rfl, .inl rfl, .inl rfl, trivial⟩)) (by kernel_rfl) (by kernel_rfl) (by kernel_rfl) (by rfl) (fun _ _ _ h => h) (fun W => y_move ha23 rfl) ?_
  clear ha23 a23; intro a24 ha24
  refine d_y 2 ha24 rfl rfl (fun _ => (m22.to ⟨.inl rfl, .inl rfl, .inl rfl, .inl rfl, .inl rfl, .inl rfl, .inl rfl, .inl rfl, trivial⟩)) (by kernel_rfl) (by kernel_rfl) (by kernel_rfl) (by rfl) (fun _ _ _ h => h) (fun W => y_nilCheck ha24 rfl) ?_
  clear ha24 a24; intro a25 ha25
  refine d_y 3 ha25 rfl rfl (fun _ => (m22.to ⟨.inl rfl, .inl rfl, .inl rfl, .inl rfl, .inl rfl, .inl rfl, .inl rfl, .inl rfl, trivial⟩)) (by kernel_rfl) (by kernel_rfl) (by kernel_rfl) (by rfl) (fun _ _ _ h => h) (fun W => y_fieldAddr ha25 (off := 0) rfl Try.underlying56 rfl (s := 4) (by kernel_rfl) rfl) ?_
  clear ha25 a25; intro a26 ha26
  refine d_y 4 ha26 rfl rfl (fun _ => (m22.to ⟨.inl rfl, .inl rfl, .inl rfl, .inl rfl, .inl rfl, .inl rfl, .inl rfl, .inl rfl, trivial⟩)) (by kernel_rfl) (by kernel_rfl) (by kernel_rfl) (by rfl) (fun _ _ _ h => h) (fun W => y_fieldAddr ha26 (off := 4) rfl Try.underlying54 rfl (s := 0) (by kernel_rfl) rfl) ?_
  clear ha26 a26; intro a27 ha27
  refine d_r 5 ha27 rfl rfl (m22.to ⟨.inl rfl, .inl rfl, .inl rfl, .inl rfl, .inl rfl, .inl rfl, .inl rfl, .inl rfl, trivial⟩) (by kernel_rfl) (by kernel_rfl) (by kernel_rfl) (by kernel_rfl) (by kernel_rfl) (fun _ _ _ h => h) (fun W hW => y_loadB1 ha27 hW (i := 1) rfl rfl rfl Try.underlying29 rfl) ?_
  clear ha27 a27; intro a28 ha28
  refine d_r 6 ha28 rfl rfl (m22.to ⟨.inl rfl, .inl rfl, .inl rfl, .inl rfl, .inl rfl, .inl rfl, .inl rfl, .inl rfl, trivial⟩) (by kernel_rfl) (by kernel_rfl) (by kernel_rfl) (by kernel_rfl) (by kernel_rfl) (fun _ _ _ h => h) (fun W hW => y_loadBR ha28 hW (i := 8) rfl rfl Try.underlying32 rfl sz32ad (by simp) (by dsimp only [List.drop, List.take] <;> rfl)) ?_
  clear ha28 a28; intro a29 ha29
  refine stepE_only 7 rfl (by kernel_rfl) rfl (fun K hK => ?_)
  refine e_litR ha29 m22 9 (mm := 4) rfl (.cons rfl rfl (.cons (.v _) (.cons (.v _) (.cons (.v _) (.cons (m22.rd (i := 7) rfl) .nil)))) <| .nil) Try.underlying29 inf32ad rfl rfl rfl rfl rfl ?_
  clear ha29 a29 m22; intro g30 a31 w31 ha31 m31 
  refine hK _ _ (m31.to ⟨.inl rfl, .inl rfl, .inl rfl, .inl rfl, .inl rfl, .inl rfl, .inl rfl, .inl rfl, trivial⟩) ?_; clear hK K
  have m33 := m31.freezeR 9 rfl; clear m31
  refine stepE_end 8 rfl (by kernel_rfl) rfl (by rfl) (fun K hK => ?_)
  refine e_appSA ha31 m33 2 rfl rfl rfl (m33.rd (i := 9) rfl).cells Try.underlying29 inf32ad rfl rfl (by decide) (by simp; omega) rfl ?_
  clear ha31 a31 m33; intro p32 c32 a34 w34 ha34 m34 
  refine hK _ _ ?_; clear hK K
  refine d_y 9 ha34 rfl rfl (fun h => (Bool.false_ne_true (h.symm.trans (by rfl))).elim) (by kernel_rfl) (by kernel_rfl) (by kernel_rfl) (by rfl) (fun _ _ _ h => h) (fun W => y_nilCheck ha34 rfl) ?_
  clear ha34 a34; intro a35 ha35
  refine d_y 10 ha35 rfl rfl (fun h => (Bool.false_ne_true (h.symm.trans (by rfl))).elim) (by kernel_rfl) (by kernel_rfl) (by kernel_rfl) (by rfl) (fun _ _ _ h => h) (fun W => y_fieldAddr ha35 (off := 0) rfl Try.underlying56 rfl (s := 4) (by kernel_rfl) rfl) ?_
  clear ha35 a35; intro a36 ha36
  refine d_y 11 ha36 rfl rfl (fun h => (Bool.false_ne_true (h.symm.trans (by rfl))).elim) (by kernel_rfl) (by kernel_rfl) (by kernel_rfl) (by rfl) (fun _ _ _ h => h) (fun W => y_fieldAddr ha36 (off := 4) rfl Try.underlying54 rfl (s := 0) (by kernel_rfl) rfl) ?_
  clear ha36 a36; intro a37 ha37
  refine stepE_end 12 rfl (by kernel_rfl) rfl (by rfl) (fun K hK => ?_)
  refine e_store1 ha37 m34 1 rfl rfl rfl rfl rfl sz29ad (by dsimp only [List.set] <;> rfl) ?_
  clear m34; intro w38 m38 hB38
  clear hB38
  refine hK _ _ ?_; clear hK K
  refine wpAnyE_done (by kernel_rfl) ?_ _
  refine hK2 _ _ ?_; clear hK2; try clear K2
  refine wp_seq_k (fun K3 hK3 => ?_)
  have ha39 : Has 34 [(8, _), (9, _)] a37 := ha37.only [8, 9]; clear ha37
  refine wp_region_lit ?_
  refine st_y ha39 rfl (y_loadBR ha39 m38 (i := 8) rfl rfl Try.underlying32 rfl sz32ad (by simp) (by dsimp only [List.drop, List.take] <;> rfl)) ?_
  clear ha39 a37; intro a40 ha40
  refine wpList_plain rfl (fun K hK => ?_)
  refine e_call ha40 Try.func38 rfl rfl rfl rfl (entry_any _ _ _ dd _ _ _ ((m38.rd (i := 7) rfl).any) hdd) ?_
  rintro e w41 ⟨p41, c41, rfl, hd41, hb41⟩
  have m42 := m38.callF 10 rfl hb41 hd41
  clear m38
  clear hb41 hd41
  refine ⟨_, rfl, fun a43 ha43 => ?_⟩; clear ha40 a40
  refine hK _ _ ?_; clear hK K
  refine wpList_plain rfl (fun K hK => ?_)
  refine e_storeW ha43 m42 6 rfl rfl rfl rfl rfl sz32ad ?_
  clear m42; intro w44 m44 hB44
  clear hB44
  refine hK _ _ ?_; clear hK K
  refine wpList_nil ?_
  refine hK3 _ _ ?_; clear hK3; try clear K3
  refine wp_ret ?_
  try dsimp only [Exit.then, Exit.inBlock]
  refine (retC (fn := Try.f17) ha43 m44 (i := 6) rfl rfl rfl Try.underlying32 rfl sz32ad ?_)
  have hE : es.map entD ++ [[D.v (.int .i64 (bi + es.length + 1)), .v (.int .i64 tm), .v (.int .i64 kd), .ns .u8 dd]] = (es ++ [(bi + es.length + 1, tm, kd, dd)]).map entD := by rw [List.map_append]; rfl
  rw [hE] at m44
  exact ⟨_, _, _, _, rfl, m44.ren [(1, 1), (2, 2), (3, 3), (4, 4), (5, 10)] (by decide)⟩
theorem compact_no (X : Cx) (B : Nat) (bi bt : Int) (cf d : List Int) (es : List (Int × Int × Int × List Int)) (pc pd pl : Option Addr) (cc cd cl : Nat) (i : Int) (dd : List Int) (pa : Option Addr) (ca : Nat) (w0 : World) (hbi : -1000000000000000000 ≤ bi ∧ bi ≤ 1000000000000000000) (hn : es.length ≤ 1000000) (hi : i ≤ bi ∨ bi + es.length < i) (m0 : MemOk X w0 [(1, .box B 56 [.int .i64 bi, .int .i64 bt, .slice pc cf.length cc, .slice pd d.length cd, .slice pl (es.map entD).length cl]), (2, .seg (.slice pl (es.map entD).length cl) 32 4 (es.map entD)), (3, .dat (.slice pc cf.length cc) (.ns .i64 cf)), (4, .dat (.slice pd d.length cd) (.ns .u8 d)), (5, .dat (.slice pa dd.length ca) (.ns .u8 dd))] w0) :
    Calls Try.prog 19 #[.pointer (some ⟨B, 0, none⟩), .int .i64 i, .slice pa dd.length ca] w0 fun e w' => e = .returned (.bool false) ∧ MemOk X w0 [(1, .box B 56 [.int .i64 bi, .int .i64 bt, .slice pc cf.length cc, .slice pd d.length cd, .slice pl (es.map entD).length cl]), (2, .seg (.slice pl (es.map entD).length cl) 32 4 (es.map entD)), (3, .dat (.slice pc cf.length cc) (.ns .i64 cf)), (4, .dat (.slice pd d.length cd) (.ns .u8 d))] w' := by
  refine enter (fn := Try.f19) Try.func19 rfl Try.ntmps19 rfl (fun a0 ha0 => ?_)
  simp only [List.zipIdx_cons, List.zipIdx_nil, List.map_cons, List.map_nil, Nat.reduceAdd, Nat.zero_add] at ha0
  refine wp_seq_k (fun K0 hK0 => ?_)
  refine wp_region_lit ?_
  refine st_y ha0 rfl (y_assign ha0 rfl) ?_
  clear ha0 a0; intro a1 ha1
  refine wpList_nil ?_
  refine hK0 _ _ ?_; clear hK0; try clear K0
  refine wp_seq_k (fun K1 hK1 => ?_)
  refine wp_region_lit ?_
  refine st_y ha1 rfl (y_move ha1 rfl) ?_
  clear ha1 a1; intro a2 ha2
  refine st_y ha2 rfl (y_nilCheck ha2 rfl) ?_
  clear ha2 a2; intro a3 ha3
  refine st_y ha3 rfl (y_fieldAddr ha3 (off := 0) rfl Try.underlying56 rfl (s := 4) (by kernel_rfl) rfl) ?_
  clear ha3 a3; intro a4 ha4
  refine st_y ha4 rfl (y_move ha4 rfl) ?_
  clear ha4 a4; intro a5 ha5
  refine wpList_plain rfl (fun K hK => ?_)
  refine e_call ha5 Try.func40 rfl rfl rfl rfl (place_no _ _ _ _ _ _ _ _ _ _ (m0.ok 1 _ rfl : Res.ok _ _ _ _ (.box _ _ _)).1 (by omega) (by first | omega | (simp; omega) | simp) (by simp; omega)) ?_
  rintro e w6 ⟨rfl, hb6⟩
  have m7 := m0.later hb6
  clear m0
  clear hb6
  refine ⟨_, rfl, fun a8 ha8 => ?_⟩; clear ha5 a5
  refine hK _ _ ?_; clear hK K
  refine st_y ha8 rfl (y_move ha8 rfl) ?_
  clear ha8 a8; intro a9 ha9
  refine st_y ha9 rfl (y_extract ha9 rfl rfl) ?_
  clear ha9 a9; intro a10 ha10
  refine st_y ha10 rfl (y_extract ha10 rfl rfl) ?_
  clear ha10 a10; intro a11 ha11
  refine st_y ha11 rfl (y_assign ha11 rfl) ?_
  clear ha11 a11; intro a12 ha12
  refine st_y ha12 rfl (y_assign ha12 rfl) ?_
  clear ha12 a12; intro a13 ha13
  refine wpList_nil ?_
  refine hK1 _ _ ?_; clear hK1; try clear K1
  refine wp_seq_k (fun K2 hK2 => ?_)
  refine wp_seq_k (fun K3 hK3 => ?_)
  have ha14 : Has 54 [(0, _), (1, _), (2, _), (6, _), (7, _), (8, _)] a13 := ha13.only [0, 1, 2, 6, 7, 8]; clear ha13
  refine wp_region_lit ?_
  refine st_y ha14 rfl (y_move ha14 rfl) ?_
  clear ha14 a13; intro a15 ha15
  refine st_y ha15 rfl (y_not ha15 rfl) ?_
  clear ha15 a15; intro a16 ha16
  refine wpList_nil ?_
  refine hK3 _ _ ?_; clear hK3; try clear K3
  refine wp_cond_true (ha16.ev (x := .tmp 19) rfl) ?_
  refine wp_seq_k (fun K4 hK4 => ?_)
  refine wp_region_lit ?_
  refine st_y ha16 rfl (y_assign ha16 rfl) ?_
  clear ha16 a16; intro a17 ha17
  refine wpList_nil ?_
  refine hK4 _ _ ?_; clear hK4; try clear K4
  refine wp_ret ?_
  try dsimp only [Exit.then, Exit.inBlock]
  refine (ret1 (fn := Try.f19) ha17 rfl rfl ?_)
  exact ⟨rfl, m7.only [1, 2, 3, 4]⟩
theorem compact_yes (X : Cx) (B : Nat) (bi bt : Int) (cf d : List Int) (es : List (Int × Int × Int × List Int)) (pc pd pl : Option Addr) (cc cd cl : Nat) (k : Nat) (i : Int) (dd : List Int) (pa : Option Addr) (ca : Nat) (w0 : World) {ei et ek : Int} {ed : List Int} (hbi : -1000000000000000000 ≤ bi ∧ bi ≤ 1000000000000000000) (hn : es.length ≤ 1000000) (hdd : dd.length ≤ 140737488351232) (hcf : cf.length ≤ 900) (heb : EntsB es) (hes : es[k]? = some (ei, et, ek, ed)) (hi : i = bi + 1 + k) (m0 : MemOk X w0 [(1, .box B 56 [.int .i64 bi, .int .i64 bt, .slice pc cf.length cc, .slice pd d.length cd, .slice pl (es.map entD).length cl]), (2, .seg (.slice pl (es.map entD).length cl) 32 4 (es.map entD)), (3, .dat (.slice pc cf.length cc) (.ns .i64 cf)), (4, .dat (.slice pd d.length cd) (.ns .u8 d)), (5, .dat (.slice pa dd.length ca) (.ns .u8 dd))] w0) :
    Calls Try.prog 19 #[.pointer (some ⟨B, 0, none⟩), .int .i64 i, .slice pa dd.length ca] w0 fun e w' => ∃ (pc' : Option Addr) (cc' : Nat) (pd' : Option Addr) (cd' : Nat) (pl' : Option Addr) (cl' : Nat), e = .returned (.bool true) ∧ MemOk X w0 [(1, .box B 56 [.int .i64 i, .int .i64 et, .slice pc' (confL cf es i).length cc', .slice pd' dd.length cd', .slice pl' ((es.drop (k + 1)).map entD).length cl']), (2, .seg (.slice pl' ((es.drop (k + 1)).map entD).length cl') 32 4 ((es.drop (k + 1)).map entD)), (3, .dat (.slice pc' (confL cf es i).length cc') (.ns .i64 (confL cf es i))), (4, .dat (.slice pd' dd.length cd') (.ns .u8 dd))] w' := by
  have hk := (List.getElem?_eq_some_iff.1 hes).1
  refine enter (fn := Try.f19) Try.func19 rfl Try.ntmps19 rfl (fun a0 ha0 => ?_)
  simp only [List.zipIdx_cons, List.zipIdx_nil, List.map_cons, List.map_nil, Nat.reduceAdd, Nat.zero_add] at ha0
  refine wp_seq_k (fun K0 hK0 => ?_)
  refine wp_region_lit ?_
  refine st_y ha0 rfl (y_assign ha0 rfl) ?_
  clear ha0 a0; intro a1 ha1
  refine wpList_nil ?_
  refine hK0 _ _ ?_; clear hK0; try clear K0
  refine wp_seq_k (fun K1 hK1 => ?_)
  refine wp_region_lit ?_
  refine st_y ha1 rfl (y_move ha1 rfl) ?_
  clear ha1 a1; intro a2 ha2
  refine st_y ha2 rfl (y_nilCheck ha2 rfl) ?_
  clear ha2 a2; intro a3 ha3
  refine st_y ha3 rfl (y_fieldAddr ha3 (off := 0) rfl Try.underlying56 rfl (s := 4) (by kernel_rfl) rfl) ?_
  clear ha3 a3; intro a4 ha4
  refine st_y ha4 rfl (y_move ha4 rfl) ?_
  clear ha4 a4; intro a5 ha5
  refine wpList_plain rfl (fun K hK => ?_)
  refine e_call ha5 Try.func40 rfl rfl rfl rfl (place_yes _ _ _ _ _ _ _ _ _ k _ (m0.ok 1 _ rfl : Res.ok _ _ _ _ (.box _ _ _)).1 (by omega) (by first | omega | (simp; omega) | simp) (by simp; omega) (by omega)) ?_
  rintro e w6 ⟨rfl, hb6⟩
  have m7 := m0.later hb6
  clear m0
  clear hb6
  refine ⟨_, rfl, fun a8 ha8 => ?_⟩; clear ha5 a5
  refine hK _ _ ?_; clear hK K
  refine st_y ha8 rfl (y_move ha8 rfl) ?_
  clear ha8 a8; intro a9 ha9
  refine st_y ha9 rfl (y_extract ha9 rfl rfl) ?_
  clear ha9 a9; intro a10 ha10
  refine st_y ha10 rfl (y_extract ha10 rfl rfl) ?_
  clear ha10 a10; intro a11 ha11
  refine st_y ha11 rfl (y_assign ha11 rfl) ?_
  clear ha11 a11; intro a12 ha12
  refine st_y ha12 rfl (y_assign ha12 rfl) ?_
  clear ha12 a12; intro a13 ha13
  refine wpList_nil ?_
  refine hK1 _ _ ?_; clear hK1; try clear K1
  refine wp_seq_k (fun K2 hK2 => ?_)
  refine wp_seq_k (fun K3 hK3 => ?_)
  have ha14 : Has 54 [(0, _), (1, _), (2, _), (6, _), (7, _), (8, _)] a13 := ha13.only [0, 1, 2, 6, 7, 8]; clear ha13
  refine wp_region_lit ?_
  refine st_y ha14 rfl (y_move ha14 rfl) ?_
  clear ha14 a13; intro a15 ha15
  refine st_y ha15 rfl (y_not ha15 rfl) ?_
  clear ha15 a15; intro a16 ha16
  refine wpList_nil ?_
  refine hK3 _ _ ?_; clear hK3; try clear K3
  refine wp_cond_false (ha16.ev (x := .tmp 19) rfl) ?_
  refine wp_skip ?_
  refine hK2 _ _ ?_; clear hK2; try clear K2
  refine wp_seq_k (fun K4 hK4 => ?_)
  obtain ⟨gs17, os17, vs17, hp17, hl17, hR17, hrg17⟩ := m7.openS (i := 2) rfl (k) (r := [.v (.int .i64 ei), .v (.int .i64 et), .v (.int .i64 ek), .ns .u8 ed]) (ent_get hes)
  cases hp17; clear hl17 hR17 hrg17 vs17
  have m18 : MemOk _ _ [(1, _), (2, _), (3, _), (4, _), (5, _)] _ := m7.only [1, 2, 3, 4, 5]; clear m7
  refine region_m 17 (B := [(1, _), (2, _), (3, _), (4, _), (5, _)]) (m18.to ⟨.inl rfl, .inl rfl, .inl rfl, .inl rfl, .inl rfl, trivial⟩) m18 (by kernel_rfl) (fun w19 mB19 m19 => ?_); clear m18 mB19
  refine d_y 0 ha16 rfl rfl (fun _ => (m19.to ⟨.inl rfl, .inl rfl, .inl rfl, .inl rfl, .inl rfl, trivial⟩)) (by kernel_rfl) (by kernel_rfl) (by kernel_rfl) (by rfl) (fun _ _ _ h => h) (fun W => y_move ha16 rfl) ?_
  clear ha16 a16; intro a20 ha20
  refine d_y 1 ha20 rfl rfl (fun _ => (m19.to ⟨.inl rfl, .inl rfl, .inl rfl, .inl rfl, .inl rfl, trivial⟩)) (by kernel_rfl) (by kernel_rfl) (by kernel_rfl) (by rfl) (fun _ _ _ h => h) (fun W => y_move ha20 rfl) ?_
  clear ha20 a20; intro a21 ha21
  refine d_y 2 ha21 rfl rfl (fun _ => (m19.to ⟨.inl rfl, .inl rfl, .inl rfl, .inl rfl, .inl rfl, trivial⟩)) (by kernel_rfl) (by kernel_rfl) (by kernel_rfl) (by rfl) (fun _ _ _ h => h) (fun W => y_nilCheck ha21 rfl) ?_
  clear ha21 a21; intro a22 ha22
  refine d_y 3 ha22 rfl rfl (fun _ => (m19.to ⟨.inl rfl, .inl rfl, .inl rfl, .inl rfl, .inl rfl, trivial⟩)) (by kernel_rfl) (by kernel_rfl) (by kernel_rfl) (by rfl) (fun _ _ _ h => h) (fun W => y_fieldAddr ha22 (off := 0) rfl Try.underlying56 rfl (s := 4) (by kernel_rfl) rfl) ?_
  clear ha22 a22; intro a23 ha23
  refine d_y 4 ha23 rfl rfl (fun _ => (m19.to ⟨.inl rfl, .inl rfl, .inl rfl, .inl rfl, .inl rfl, trivial⟩)) (by kernel_rfl) (by kernel_rfl) (by kernel_rfl) (by rfl) (fun _ _ _ h => h) (fun W => y_fieldAddr ha23 (off := 4) rfl Try.underlying54 rfl (s := 0) (by kernel_rfl) rfl) ?_
  clear ha23 a23; intro a24 ha24
  refine d_r 5 ha24 rfl rfl (m19.to ⟨.inl rfl, .inl rfl, .inl rfl, .inl rfl, .inl rfl, trivial⟩) (by kernel_rfl) (by kernel_rfl) (by kernel_rfl) (by kernel_rfl) (by kernel_rfl) (fun _ _ _ h => h) (fun W hW => y_loadB1 ha24 hW (i := 1) rfl rfl rfl Try.underlying29 rfl) ?_
  clear ha24 a24; intro a25 ha25
  refine d_y 6 ha25 rfl rfl (fun _ => (m19.to ⟨.inl rfl, .inl rfl, .inl rfl, .inl rfl, .inl rfl, trivial⟩)) (by kernel_rfl) (by kernel_rfl) (by kernel_rfl) (by rfl) (fun _ _ _ h => h) (fun W => y_move ha25 rfl) ?_
  clear ha25 a25; intro a26 ha26
  refine d_y 7 ha26 rfl rfl (fun _ => (m19.to ⟨.inl rfl, .inl rfl, .inl rfl, .inl rfl, .inl rfl, trivial⟩)) (by kernel_rfl) (by kernel_rfl) (by kernel_rfl) (by rfl) (fun _ _ _ h => h) (fun W => y_idx ha26 rfl rfl Try.underlying29 sz32co (k) rfl (by rw [List.length_map]; exact hk)) ?_
  clear ha26 a26; intro a27 ha27
  refine d_y 8 ha27 rfl rfl (fun _ => (m19.to ⟨.inl rfl, .inl rfl, .inl rfl, .inl rfl, .inl rfl, trivial⟩)) (by kernel_rfl) (by kernel_rfl) (by kernel_rfl) (by rfl) (fun _ _ _ h => h) (fun W => y_fieldAddrQ ha27 1 rfl Try.underlying32 rfl (s := 0) (by kernel_rfl) rfl) ?_
  clear ha27 a27; intro a28 ha28
  refine d_r 9 ha28 rfl rfl (m19.to ⟨.inl rfl, .inl rfl, .inl rfl, .inl rfl, .inl rfl, trivial⟩) (by kernel_rfl) (by kernel_rfl) (by kernel_rfl) (by kernel_rfl) (by kernel_rfl) (fun _ _ _ h => h) (fun W hW => y_loadSV ha28 hW (i := 2) rfl (k) (r := [.v (.int .i64 ei), .v (.int .i64 et), .v (.int .i64 ek), .ns .u8 ed]) (ent_get hes) (q := 1) rfl rfl rfl Try.underlying3 rfl) ?_
  clear ha28 a28; intro a29 ha29
  refine d_y 10 ha29 rfl rfl (fun _ => (m19.to ⟨.inl rfl, .inl rfl, .inl rfl, .inl rfl, .inl rfl, trivial⟩)) (by kernel_rfl) (by kernel_rfl) (by kernel_rfl) (by rfl) (fun _ _ _ h => h) (fun W => y_move ha29 rfl) ?_
  clear ha29 a29; intro a30 ha30
  refine d_y 11 ha30 rfl rfl (fun _ => (m19.to ⟨.inl rfl, .inl rfl, .inl rfl, .inl rfl, .inl rfl, trivial⟩)) (by kernel_rfl) (by kernel_rfl) (by kernel_rfl) (by rfl) (fun _ _ _ h => h) (fun W => y_move ha30 rfl) ?_
  clear ha30 a30; intro a31 ha31
  refine d_y 13 ha31 rfl rfl (fun _ => (m19.to ⟨.inl rfl, .inl rfl, .inl rfl, .inl rfl, .inl rfl, trivial⟩)) (by kernel_rfl) (by kernel_rfl) (by kernel_rfl) (by rfl) (fun _ _ _ h => h) (fun W => y_move ha31 rfl) ?_
  clear ha31 a31; intro a32 ha32
  refine d_two 12 16 rfl rfl (by kernel_rfl) rfl rfl (fun K hK => ?_) (fun K hK => ?_)
  · skip
    refine e_call ha32 Try.func29 rfl rfl rfl rfl (conf_any _ _ _ cf d es _ _ _ _ _ _ _ _ (m19.ok 1 _ rfl : Res.ok _ _ _ _ (.box _ _ _)).1 ((m19.ok 2 _ rfl : Res.ok _ _ _ _ (.seg _ _ _ _)).1.rd (S' := fun _ => True) (fun _ _ _ => trivial) (fun _ _ => trivial)) (by omega) (m19.rd (i := 3) rfl).any hcf heb) ?_
    rintro e w33 ⟨p33, c33, rfl, hd33, hb33⟩
    have m34 := m19.callF 6 rfl hb33 hd33
    clear m19
    clear hb33 hd33
    refine ⟨_, rfl, fun a35 ha35 => ?_⟩; clear ha32 a32
    refine hK _ _ (fun _ => (m34.to ⟨.inl rfl, .inl rfl, .inl rfl, .inl rfl, .inl rfl, trivial⟩)) ?_; clear hK K
    refine d_two 14 16 rfl rfl (by kernel_rfl) rfl rfl (fun K hK => ?_) (fun K hK => ?_)
    · skip
      refine e_call ha35 Try.func39 rfl rfl rfl rfl (plainB_any dd _ _ _ ((m34.rd (i := 5) rfl).any) hdd) ?_
      rintro e w36 ⟨p36, c36, rfl, hd36, hb36⟩
      have m37 := m34.callF 7 rfl hb36 hd36
      clear m34
      clear hb36 hd36
      refine ⟨_, rfl, fun a38 ha38 => ?_⟩; clear ha35 a35
      refine hK _ _ (fun _ => (m37.to ⟨.inl rfl, .inl rfl, .inl rfl, .inl rfl, .inl rfl, trivial⟩)) ?_; clear hK K
      refine d_y 15 ha38 rfl rfl (fun _ => (m37.to ⟨.inl rfl, .inl rfl, .inl rfl, .inl rfl, .inl rfl, trivial⟩)) (by kernel_rfl) (by kernel_rfl) (by kernel_rfl) (by rfl) (fun _ _ _ h => h) (fun W => y_build ha38 rfl zc28co fl28co rfl (by dsimp only [setL, List.set] <;> rfl)) ?_
      clear ha38 a38; intro a39 ha39
      refine stepE_only 16 rfl (by kernel_rfl) rfl (fun K hK => ?_)
      refine e_alloc ha39 m37 8 zc28co rfl ?_
      clear ha39 a39 m37; intro g40 a41 w41 ha41 m41 hB41 hg41
      clear hB41 hg41
      refine hK _ _ (m41.to ⟨.inl rfl, .inl rfl, .inl rfl, .inl rfl, .inl rfl, trivial⟩) ?_; clear hK K
      refine stepE_end 17 rfl (by kernel_rfl) rfl (by rfl) (fun K hK => ?_)
      refine e_storeW ha41 m41 8 rfl rfl rfl rfl rfl sz28co ?_
      clear m41; intro w42 m42 hB42
      clear hB42
      refine hK _ _ ?_; clear hK K
      refine wpAnyE_done (by kernel_rfl) ?_ _
      refine hK4 _ _ ?_; clear hK4; try clear K4
      refine wp_seq_k (fun K5 hK5 => ?_)
      have ha43 : Has 54 [(0, _), (6, _), (7, _), (9, _)] a41 := ha41.only [0, 6, 7, 9]; clear ha41
      have m44 : MemOk _ _ [(1, _), (2, _), (3, _), (4, _), (5, _), (6, _), (7, _), (8, _)] _ := m42.only [1, 2, 3, 4, 5, 6, 7, 8]; clear m42
      refine region_m 15 (B := [(1, _), (8, _)]) (m44.to ⟨.inl rfl, .inl rfl, trivial⟩) m44 (by kernel_rfl) (fun w45 mB45 m45 => ?_); clear m44 mB45
      refine d_y 0 ha43 rfl rfl (fun _ => (m45.to ⟨.inl rfl, .inl rfl, trivial⟩)) (by kernel_rfl) (by kernel_rfl) (by kernel_rfl) (by rfl) (fun _ _ _ h => h) (fun W => y_move ha43 rfl) ?_
      clear ha43 a41; intro a46 ha46
      refine d_y 1 ha46 rfl rfl (fun _ => (m45.to ⟨.inl rfl, .inl rfl, trivial⟩)) (by kernel_rfl) (by kernel_rfl) (by kernel_rfl) (by rfl) (fun _ _ _ h => h) (fun W => y_move ha46 rfl) ?_
      clear ha46 a46; intro a47 ha47
      refine d_r 2 ha47 rfl rfl (m45.to ⟨.inl rfl, .inl rfl, trivial⟩) (by kernel_rfl) (by kernel_rfl) (by kernel_rfl) (by kernel_rfl) (by kernel_rfl) (fun _ _ _ h => h) (fun W hW => y_loadBR ha47 hW (i := 8) rfl rfl Try.underlying28 rfl sz28co (by simp) (by dsimp only [List.drop, List.take] <;> rfl)) ?_
      clear ha47 a47; intro a48 ha48
      refine d_y 3 ha48 rfl rfl (fun _ => (m45.to ⟨.inl rfl, .inl rfl, trivial⟩)) (by kernel_rfl) (by kernel_rfl) (by kernel_rfl) (by rfl) (fun _ _ _ h => h) (fun W => y_move ha48 rfl) ?_
      clear ha48 a48; intro a49 ha49
      refine d_y 4 ha49 rfl rfl (fun _ => (m45.to ⟨.inl rfl, .inl rfl, trivial⟩)) (by kernel_rfl) (by kernel_rfl) (by kernel_rfl) (by rfl) (fun _ _ _ h => h) (fun W => y_nilCheck ha49 rfl) ?_
      clear ha49 a49; intro a50 ha50
      refine d_y 5 ha50 rfl rfl (fun _ => (m45.to ⟨.inl rfl, .inl rfl, trivial⟩)) (by kernel_rfl) (by kernel_rfl) (by kernel_rfl) (by rfl) (fun _ _ _ h => h) (fun W => y_fieldAddr ha50 (off := 0) rfl Try.underlying56 rfl (s := 4) (by kernel_rfl) rfl) ?_
      clear ha50 a50; intro a51 ha51
      refine d_y 6 ha51 rfl rfl (fun _ => (m45.to ⟨.inl rfl, .inl rfl, trivial⟩)) (by kernel_rfl) (by kernel_rfl) (by kernel_rfl) (by rfl) (fun _ _ _ h => h) (fun W => y_fieldAddr ha51 (off := 4) rfl Try.underlying54 rfl (s := 0) (by kernel_rfl) rfl) ?_
      clear ha51 a51; intro a52 ha52
      refine d_r 7 ha52 rfl rfl (m45.to ⟨.inl rfl, .inl rfl, trivial⟩) (by kernel_rfl) (by kernel_rfl) (by kernel_rfl) (by kernel_rfl) (by kernel_rfl) (fun _ _ _ h => h) (fun W hW => y_loadB1 ha52 hW (i := 1) rfl rfl rfl Try.underlying29 rfl) ?_
      clear ha52 a52; intro a53 ha53
      refine d_y 8 ha53 rfl rfl (fun _ => (m45.to ⟨.inl rfl, .inl rfl, trivial⟩)) (by kernel_rfl) (by kernel_rfl) (by kernel_rfl) (by rfl) (fun _ _ _ h => h) (fun W => y_move ha53 rfl) ?_
      clear ha53 a53; intro a54 ha54
      refine d_y 9 ha54 rfl rfl (fun _ => (m45.to ⟨.inl rfl, .inl rfl, trivial⟩)) (by kernel_rfl) (by kernel_rfl) (by kernel_rfl) (by rfl) (fun _ _ _ h => h) (fun W => y_add ha54 rfl rfl (r := ((k + 1 : Nat) : Int)) (by rw [IntWalk.i64_in _ (by omega)]; omega)) ?_
      clear ha54 a54; intro a55 ha55
      have m56 := m45.dropS 2 rfl (k + 1) (by rw [List.length_map]; omega) (by rw [List.length_map]; omega); clear m45
      refine d_y 10 ha55 rfl rfl (fun _ => (m56.to ⟨.inl rfl, .inl rfl, trivial⟩)) (by kernel_rfl) (by kernel_rfl) (by kernel_rfl) (by rfl) (fun _ _ _ h => h) (fun W => y_sliceLn ha55 (k + 1) rfl rfl Try.underlying29 sz32co rfl (by rw [List.length_map]; omega)) ?_
      clear ha55 a55; intro a57 ha57
      refine stepE_only 11 rfl (by kernel_rfl) rfl (fun K hK => ?_)
      refine e_call ha57 Try.func41 rfl rfl rfl rfl (plainE_fr _ ((es.map entD).drop (k + 1)) _ _ (by simp; omega) (m56.into [(1, 2)] (by decide) rfl)) ?_
      rintro e w58 ⟨pl58, cl58, rfl, hm58⟩
      have mx58 := m56.back hm58 [(2, 1), (60, 2)] (by decide); clear hm58 m56
      have m58 : MemOk _ _ [(2, _), (60, _), (1, _), (3, _), (4, _), (5, _), (6, _), (7, _), (8, _)] _ := mx58.only [2, 60, 1, 3, 4, 5, 6, 7, 8]; clear mx58
      refine ⟨_, rfl, fun a59 ha59 => ?_⟩; clear ha57 a57
      refine hK _ _ (m58.to ⟨.inl rfl, .inl rfl, trivial⟩) ?_; clear hK K
      refine d_y 12 ha59 rfl rfl (fun _ => (m58.to ⟨.inl rfl, .inl rfl, trivial⟩)) (by kernel_rfl) (by kernel_rfl) (by kernel_rfl) (by rfl) (fun _ _ _ h => h) (fun W => y_nilCheck ha59 rfl) ?_
      clear ha59 a59; intro a60 ha60
      refine d_y 13 ha60 rfl rfl (fun _ => (m58.to ⟨.inl rfl, .inl rfl, trivial⟩)) (by kernel_rfl) (by kernel_rfl) (by kernel_rfl) (by rfl) (fun _ _ _ h => h) (fun W => y_fieldAddr ha60 (off := 0) rfl Try.underlying56 rfl (s := 4) (by kernel_rfl) rfl) ?_
      clear ha60 a60; intro a61 ha61
      refine d_y 14 ha61 rfl rfl (fun _ => (m58.to ⟨.inl rfl, .inl rfl, trivial⟩)) (by kernel_rfl) (by kernel_rfl) (by kernel_rfl) (by rfl) (fun _ _ _ h => h) (fun W => y_fieldAddr ha61 (off := 0) rfl Try.underlying54 rfl (s := 3) (by kernel_rfl) rfl) ?_
      clear ha61 a61; intro a62 ha62
      refine stepE_end 15 rfl (by kernel_rfl) rfl (by rfl) (fun K hK => ?_)
      refine e_storeR ha62 m58 1 rfl rfl rfl rfl rfl sz28co (by dsimp only [List.take, List.drop, List.append_eq, List.append] <;> rfl) ?_
      clear m58; intro w63 m63 hB63
      clear hB63
      refine hK _ _ ?_; clear hK K
      refine d_y 16 ha62 rfl rfl (fun h => (Bool.false_ne_true (h.symm.trans (by rfl))).elim) (by kernel_rfl) (by kernel_rfl) (by kernel_rfl) (by rfl) (fun _ _ _ h => h) (fun W => y_nilCheck ha62 rfl) ?_
      clear ha62 a62; intro a64 ha64
      refine d_y 17 ha64 rfl rfl (fun h => (Bool.false_ne_true (h.symm.trans (by rfl))).elim) (by kernel_rfl) (by kernel_rfl) (by kernel_rfl) (by rfl) (fun _ _ _ h => h) (fun W => y_fieldAddr ha64 (off := 0) rfl Try.underlying56 rfl (s := 4) (by kernel_rfl) rfl) ?_
      clear ha64 a64; intro a65 ha65
      refine d_y 18 ha65 rfl rfl (fun h => (Bool.false_ne_true (h.symm.trans (by rfl))).elim) (by kernel_rfl) (by kernel_rfl) (by kernel_rfl) (by rfl) (fun _ _ _ h => h) (fun W => y_fieldAddr ha65 (off := 4) rfl Try.underlying54 rfl (s := 0) (by kernel_rfl) rfl) ?_
      clear ha65 a65; intro a66 ha66
      refine stepE_end 19 rfl (by kernel_rfl) rfl (by rfl) (fun K hK => ?_)
      refine e_store1 ha66 m63 1 rfl rfl rfl rfl rfl sz29co (by dsimp only [List.set] <;> rfl) ?_
      clear m63; intro w67 m67 hB67
      clear hB67
      refine hK _ _ ?_; clear hK K
      refine wpAnyE_done (by kernel_rfl) ?_ _
      refine hK5 _ _ ?_; clear hK5; try clear K5
      refine wp_seq_k (fun K6 hK6 => ?_)
      have ha68 : Has 54 [(6, _)] a66 := ha66.only [6]; clear ha66
      refine wp_region_lit ?_
      refine st_y ha68 rfl (y_assign ha68 rfl) ?_
      clear ha68 a66; intro a69 ha69
      refine wpList_nil ?_
      refine hK6 _ _ ?_; clear hK6; try clear K6
      refine wp_ret ?_
      try dsimp only [Exit.then, Exit.inBlock]
      refine (ret1 (fn := Try.f19) ha69 rfl rfl ?_)
      rw [← List.map_drop] at m67
      exact ⟨_, _, _, _, _, _, rfl, m67.ren [(1, 1), (2, 60), (3, 6), (4, 7)] (by decide)⟩
    · skip
      refine e_alloc ha35 m34 7 zc28co rfl ?_
      clear ha35 a35 m34; intro g70 a71 w71 ha71 m71 hB71 hg71
      clear hB71 hg71
      refine hK _ _ (fun _ => (m71.to ⟨.inl rfl, .inl rfl, .inl rfl, .inl rfl, .inl rfl, trivial⟩)) ?_; clear hK K
      refine stepE_only 14 rfl (by kernel_rfl) rfl (fun K hK => ?_)
      refine e_call ha71 Try.func39 rfl rfl rfl rfl (plainB_any dd _ _ _ ((m71.rd (i := 5) rfl).any) hdd) ?_
      rintro e w72 ⟨p72, c72, rfl, hd72, hb72⟩
      have m73 := m71.callF 8 rfl hb72 hd72
      clear m71
      clear hb72 hd72
      refine ⟨_, rfl, fun a74 ha74 => ?_⟩; clear ha71 a71
      refine hK _ _ (m73.to ⟨.inl rfl, .inl rfl, .inl rfl, .inl rfl, .inl rfl, trivial⟩) ?_; clear hK K
      refine d_y 15 ha74 rfl rfl (fun _ => (m73.to ⟨.inl rfl, .inl rfl, .inl rfl, .inl rfl, .inl rfl, trivial⟩)) (by kernel_rfl) (by kernel_rfl) (by kernel_rfl) (by rfl) (fun _ _ _ h => h) (fun W => y_build ha74 rfl zc28co fl28co rfl (by dsimp only [setL, List.set] <;> rfl)) ?_
      clear ha74 a74; intro a75 ha75
      refine stepE_end 17 rfl (by kernel_rfl) rfl (by rfl) (fun K hK => ?_)
      refine e_storeW ha75 m73 7 rfl rfl rfl rfl rfl sz28co ?_
      clear m73; intro w76 m76 hB76
      clear hB76
      refine hK _ _ ?_; clear hK K
      refine wpAnyE_done (by kernel_rfl) ?_ _
      refine hK4 _ _ ?_; clear hK4; try clear K4
      refine wp_seq_k (fun K7 hK7 => ?_)
      have ha77 : Has 54 [(0, _), (6, _), (7, _), (9, _)] a75 := ha75.only [0, 6, 7, 9]; clear ha75
      have m78 : MemOk _ _ [(1, _), (2, _), (3, _), (4, _), (5, _), (6, _), (7, _), (8, _)] _ := m76.only [1, 2, 3, 4, 5, 6, 7, 8]; clear m76
      refine region_m 15 (B := [(1, _), (7, _)]) (m78.to ⟨.inl rfl, .inl rfl, trivial⟩) m78 (by kernel_rfl) (fun w79 mB79 m79 => ?_); clear m78 mB79
      refine d_y 0 ha77 rfl rfl (fun _ => (m79.to ⟨.inl rfl, .inl rfl, trivial⟩)) (by kernel_rfl) (by kernel_rfl) (by kernel_rfl) (by rfl) (fun _ _ _ h => h) (fun W => y_move ha77 rfl) ?_
      clear ha77 a75; intro a80 ha80
      refine d_y 1 ha80 rfl rfl (fun _ => (m79.to ⟨.inl rfl, .inl rfl, trivial⟩)) (by kernel_rfl) (by kernel_rfl) (by kernel_rfl) (by rfl) (fun _ _ _ h => h) (fun W => y_move ha80 rfl) ?_
      clear ha80 a80; intro a81 ha81
      refine d_r 2 ha81 rfl rfl (m79.to ⟨.inl rfl, .inl rfl, trivial⟩) (by kernel_rfl) (by kernel_rfl) (by kernel_rfl) (by kernel_rfl) (by kernel_rfl) (fun _ _ _ h => h) (fun W hW => y_loadBR ha81 hW (i := 7) rfl rfl Try.underlying28 rfl sz28co (by simp) (by dsimp only [List.drop, List.take] <;> rfl)) ?_
      clear ha81 a81; intro a82 ha82
      refine d_y 3 ha82 rfl rfl (fun _ => (m79.to ⟨.inl rfl, .inl rfl, trivial⟩)) (by kernel_rfl) (by kernel_rfl) (by kernel_rfl) (by rfl) (fun _ _ _ h => h) (fun W => y_move ha82 rfl) ?_
      clear ha82 a82; intro a83 ha83
      refine d_y 4 ha83 rfl rfl (fun _ => (m79.to ⟨.inl rfl, .inl rfl, trivial⟩)) (by kernel_rfl) (by kernel_rfl) (by kernel_rfl) (by rfl) (fun _ _ _ h => h) (fun W => y_nilCheck ha83 rfl) ?_
      clear ha83 a83; intro a84 ha84
      refine d_y 5 ha84 rfl rfl (fun _ => (m79.to ⟨.inl rfl, .inl rfl, trivial⟩)) (by kernel_rfl) (by kernel_rfl) (by kernel_rfl) (by rfl) (fun _ _ _ h => h) (fun W => y_fieldAddr ha84 (off := 0) rfl Try.underlying56 rfl (s := 4) (by kernel_rfl) rfl) ?_
      clear ha84 a84; intro a85 ha85
      refine d_y 6 ha85 rfl rfl (fun _ => (m79.to ⟨.inl rfl, .inl rfl, trivial⟩)) (by kernel_rfl) (by kernel_rfl) (by kernel_rfl) (by rfl) (fun _ _ _ h => h) (fun W => y_fieldAddr ha85 (off := 4) rfl Try.underlying54 rfl (s := 0) (by kernel_rfl) rfl) ?_
      clear ha85 a85; intro a86 ha86
      refine d_r 7 ha86 rfl rfl (m79.to ⟨.inl rfl, .inl rfl, trivial⟩) (by kernel_rfl) (by kernel_rfl) (by kernel_rfl) (by kernel_rfl) (by kernel_rfl) (fun _ _ _ h => h) (fun W hW => y_loadB1 ha86 hW (i := 1) rfl rfl rfl Try.underlying29 rfl) ?_
      clear ha86 a86; intro a87 ha87
      refine d_y 8 ha87 rfl rfl (fun _ => (m79.to ⟨.inl rfl, .inl rfl, trivial⟩)) (by kernel_rfl) (by kernel_rfl) (by kernel_rfl) (by rfl) (fun _ _ _ h => h) (fun W => y_move ha87 rfl) ?_
      clear ha87 a87; intro a88 ha88
      refine d_y 9 ha88 rfl rfl (fun _ => (m79.to ⟨.inl rfl, .inl rfl, trivial⟩)) (by kernel_rfl) (by kernel_rfl) (by kernel_rfl) (by rfl) (fun _ _ _ h => h) (fun W => y_add ha88 rfl rfl (r := ((k + 1 : Nat) : Int)) (by rw [IntWalk.i64_in _ (by omega)]; omega)) ?_
      clear ha88 a88; intro a89 ha89
      have m90 := m79.dropS 2 rfl (k + 1) (by rw [List.length_map]; omega) (by rw [List.length_map]; omega); clear m79
      refine d_y 10 ha89 rfl rfl (fun _ => (m90.to ⟨.inl rfl, .inl rfl, trivial⟩)) (by kernel_rfl) (by kernel_rfl) (by kernel_rfl) (by rfl) (fun _ _ _ h => h) (fun W => y_sliceLn ha89 (k + 1) rfl rfl Try.underlying29 sz32co rfl (by rw [List.length_map]; omega)) ?_
      clear ha89 a89; intro a91 ha91
      refine stepE_only 11 rfl (by kernel_rfl) rfl (fun K hK => ?_)
      refine e_call ha91 Try.func41 rfl rfl rfl rfl (plainE_fr _ ((es.map entD).drop (k + 1)) _ _ (by simp; omega) (m90.into [(1, 2)] (by decide) rfl)) ?_
      rintro e w92 ⟨pl92, cl92, rfl, hm92⟩
      have mx92 := m90.back hm92 [(2, 1), (60, 2)] (by decide); clear hm92 m90
      have m92 : MemOk _ _ [(2, _), (60, _), (1, _), (3, _), (4, _), (5, _), (6, _), (7, _), (8, _)] _ := mx92.only [2, 60, 1, 3, 4, 5, 6, 7, 8]; clear mx92
      refine ⟨_, rfl, fun a93 ha93 => ?_⟩; clear ha91 a91
      refine hK _ _ (m92.to ⟨.inl rfl, .inl rfl, trivial⟩) ?_; clear hK K
      refine d_y 12 ha93 rfl rfl (fun _ => (m92.to ⟨.inl rfl, .inl rfl, trivial⟩)) (by kernel_rfl) (by kernel_rfl) (by kernel_rfl) (by rfl) (fun _ _ _ h => h) (fun W => y_nilCheck ha93 rfl) ?_
      clear ha93 a93; intro a94 ha94
      refine d_y 13 ha94 rfl rfl (fun _ => (m92.to ⟨.inl rfl, .inl rfl, trivial⟩)) (by kernel_rfl) (by kernel_rfl) (by kernel_rfl) (by rfl) (fun _ _ _ h => h) (fun W => y_fieldAddr ha94 (off := 0) rfl Try.underlying56 rfl (s := 4) (by kernel_rfl) rfl) ?_
      clear ha94 a94; intro a95 ha95
      refine d_y 14 ha95 rfl rfl (fun _ => (m92.to ⟨.inl rfl, .inl rfl, trivial⟩)) (by kernel_rfl) (by kernel_rfl) (by kernel_rfl) (by rfl) (fun _ _ _ h => h) (fun W => y_fieldAddr ha95 (off := 0) rfl Try.underlying54 rfl (s := 3) (by kernel_rfl) rfl) ?_
      clear ha95 a95; intro a96 ha96
      refine stepE_end 15 rfl (by kernel_rfl) rfl (by rfl) (fun K hK => ?_)
      refine e_storeR ha96 m92 1 rfl rfl rfl rfl rfl sz28co (by dsimp only [List.take, List.drop, List.append_eq, List.append] <;> rfl) ?_
      clear m92; intro w97 m97 hB97
      clear hB97
      refine hK _ _ ?_; clear hK K
      refine d_y 16 ha96 rfl rfl (fun h => (Bool.false_ne_true (h.symm.trans (by rfl))).elim) (by kernel_rfl) (by kernel_rfl) (by kernel_rfl) (by rfl) (fun _ _ _ h => h) (fun W => y_nilCheck ha96 rfl) ?_
      clear ha96 a96; intro a98 ha98
      refine d_y 17 ha98 rfl rfl (fun h => (Bool.false_ne_true (h.symm.trans (by rfl))).elim) (by kernel_rfl) (by kernel_rfl) (by kernel_rfl) (by rfl) (fun _ _ _ h => h) (fun W => y_fieldAddr ha98 (off := 0) rfl Try.underlying56 rfl (s := 4) (by kernel_rfl) rfl) ?_
      clear ha98 a98; intro a99 ha99
      refine d_y 18 ha99 rfl rfl (fun h => (Bool.false_ne_true (h.symm.trans (by rfl))).elim) (by kernel_rfl) (by kernel_rfl) (by kernel_rfl) (by rfl) (fun _ _ _ h => h) (fun W => y_fieldAddr ha99 (off := 4) rfl Try.underlying54 rfl (s := 0) (by kernel_rfl) rfl) ?_
      clear ha99 a99; intro a100 ha100
      refine stepE_end 19 rfl (by kernel_rfl) rfl (by rfl) (fun K hK => ?_)
      refine e_store1 ha100 m97 1 rfl rfl rfl rfl rfl sz29co (by dsimp only [List.set] <;> rfl) ?_
      clear m97; intro w101 m101 hB101
      clear hB101
      refine hK _ _ ?_; clear hK K
      refine wpAnyE_done (by kernel_rfl) ?_ _
      refine hK7 _ _ ?_; clear hK7; try clear K7
      refine wp_seq_k (fun K8 hK8 => ?_)
      have ha102 : Has 54 [(6, _)] a100 := ha100.only [6]; clear ha100
      refine wp_region_lit ?_
      refine st_y ha102 rfl (y_assign ha102 rfl) ?_
      clear ha102 a100; intro a103 ha103
      refine wpList_nil ?_
      refine hK8 _ _ ?_; clear hK8; try clear K8
      refine wp_ret ?_
      try dsimp only [Exit.then, Exit.inBlock]
      refine (ret1 (fn := Try.f19) ha103 rfl rfl ?_)
      rw [← List.map_drop] at m101
      exact ⟨_, _, _, _, _, _, rfl, m101.ren [(1, 1), (2, 60), (3, 6), (4, 8)] (by decide)⟩
  · skip
    refine e_alloc ha32 m19 6 zc28co rfl ?_
    clear ha32 a32 m19; intro g104 a105 w105 ha105 m105 hB105 hg105
    clear hB105 hg105
    refine hK _ _ (fun _ => (m105.to ⟨.inl rfl, .inl rfl, .inl rfl, .inl rfl, .inl rfl, trivial⟩)) ?_; clear hK K
    refine stepE_only 12 rfl (by kernel_rfl) rfl (fun K hK => ?_)
    refine e_call ha105 Try.func29 rfl rfl rfl rfl (conf_any _ _ _ cf d es _ _ _ _ _ _ _ _ (m105.ok 1 _ rfl : Res.ok _ _ _ _ (.box _ _ _)).1 ((m105.ok 2 _ rfl : Res.ok _ _ _ _ (.seg _ _ _ _)).1.rd (S' := fun _ => True) (fun _ _ _ => trivial) (fun _ _ => trivial)) (by omega) (m105.rd (i := 3) rfl).any hcf heb) ?_
    rintro e w106 ⟨p106, c106, rfl, hd106, hb106⟩
    have m107 := m105.callF 7 rfl hb106 hd106
    clear m105
    clear hb106 hd106
    refine ⟨_, rfl, fun a108 ha108 => ?_⟩; clear ha105 a105
    refine hK _ _ (m107.to ⟨.inl rfl, .inl rfl, .inl rfl, .inl rfl, .inl rfl, trivial⟩) ?_; clear hK K
    refine stepE_only 14 rfl (by kernel_rfl) rfl (fun K hK => ?_)
    refine e_call ha108 Try.func39 rfl rfl rfl rfl (plainB_any dd _ _ _ ((m107.rd (i := 5) rfl).any) hdd) ?_
    rintro e w109 ⟨p109, c109, rfl, hd109, hb109⟩
    have m110 := m107.callF 8 rfl hb109 hd109
    clear m107
    clear hb109 hd109
    refine ⟨_, rfl, fun a111 ha111 => ?_⟩; clear ha108 a108
    refine hK _ _ (m110.to ⟨.inl rfl, .inl rfl, .inl rfl, .inl rfl, .inl rfl, trivial⟩) ?_; clear hK K
    refine d_y 15 ha111 rfl rfl (fun _ => (m110.to ⟨.inl rfl, .inl rfl, .inl rfl, .inl rfl, .inl rfl, trivial⟩)) (by kernel_rfl) (by kernel_rfl) (by kernel_rfl) (by rfl) (fun _ _ _ h => h) (fun W => y_build ha111 rfl zc28co fl28co rfl (by dsimp only [setL, List.set] <;> rfl)) ?_
    clear ha111 a111; intro a112 ha112
    refine stepE_end 17 rfl (by kernel_rfl) rfl (by rfl) (fun K hK => ?_)
    refine e_storeW ha112 m110 6 rfl rfl rfl rfl rfl sz28co ?_
    clear m110; intro w113 m113 hB113
    clear hB113
    refine hK _ _ ?_; clear hK K
    refine wpAnyE_done (by kernel_rfl) ?_ _
    refine hK4 _ _ ?_; clear hK4; try clear K4
    refine wp_seq_k (fun K9 hK9 => ?_)
    have ha114 : Has 54 [(0, _), (6, _), (7, _), (9, _)] a112 := ha112.only [0, 6, 7, 9]; clear ha112
    have m115 : MemOk _ _ [(1, _), (2, _), (3, _), (4, _), (5, _), (6, _), (7, _), (8, _)] _ := m113.only [1, 2, 3, 4, 5, 6, 7, 8]; clear m113
    refine region_m 15 (B := [(1, _), (6, _)]) (m115.to ⟨.inl rfl, .inl rfl, trivial⟩) m115 (by kernel_rfl) (fun w116 mB116 m116 => ?_); clear m115 mB116
    refine d_y 0 ha114 rfl rfl (fun _ => (m116.to ⟨.inl rfl, .inl rfl, trivial⟩)) (by kernel_rfl) (by kernel_rfl) (by kernel_rfl) (by rfl) (fun _ _ _ h => h) (fun W => y_move ha114 rfl) ?_
    clear ha114 a112; intro a117 ha117
    refine d_y 1 ha117 rfl rfl (fun _ => (m116.to ⟨.inl rfl, .inl rfl, trivial⟩)) (by kernel_rfl) (by kernel_rfl) (by kernel_rfl) (by rfl) (fun _ _ _ h => h) (fun W => y_move ha117 rfl) ?_
    clear ha117 a117; intro a118 ha118
    refine d_r 2 ha118 rfl rfl (m116.to ⟨.inl rfl, .inl rfl, trivial⟩) (by kernel_rfl) (by kernel_rfl) (by kernel_rfl) (by kernel_rfl) (by kernel_rfl) (fun _ _ _ h => h) (fun W hW => y_loadBR ha118 hW (i := 6) rfl rfl Try.underlying28 rfl sz28co (by simp) (by dsimp only [List.drop, List.take] <;> rfl)) ?_
    clear ha118 a118; intro a119 ha119
    refine d_y 3 ha119 rfl rfl (fun _ => (m116.to ⟨.inl rfl, .inl rfl, trivial⟩)) (by kernel_rfl) (by kernel_rfl) (by kernel_rfl) (by rfl) (fun _ _ _ h => h) (fun W => y_move ha119 rfl) ?_
    clear ha119 a119; intro a120 ha120
    refine d_y 4 ha120 rfl rfl (fun _ => (m116.to ⟨.inl rfl, .inl rfl, trivial⟩)) (by kernel_rfl) (by kernel_rfl) (by kernel_rfl) (by rfl) (fun _ _ _ h => h) (fun W => y_nilCheck ha120 rfl) ?_
    clear ha120 a120; intro a121 ha121
    refine d_y 5 ha121 rfl rfl (fun _ => (m116.to ⟨.inl rfl, .inl rfl, trivial⟩)) (by kernel_rfl) (by kernel_rfl) (by kernel_rfl) (by rfl) (fun _ _ _ h => h) (fun W => y_fieldAddr ha121 (off := 0) rfl Try.underlying56 rfl (s := 4) (by kernel_rfl) rfl) ?_
    clear ha121 a121; intro a122 ha122
    refine d_y 6 ha122 rfl rfl (fun _ => (m116.to ⟨.inl rfl, .inl rfl, trivial⟩)) (by kernel_rfl) (by kernel_rfl) (by kernel_rfl) (by rfl) (fun _ _ _ h => h) (fun W => y_fieldAddr ha122 (off := 4) rfl Try.underlying54 rfl (s := 0) (by kernel_rfl) rfl) ?_
    clear ha122 a122; intro a123 ha123
    refine d_r 7 ha123 rfl rfl (m116.to ⟨.inl rfl, .inl rfl, trivial⟩) (by kernel_rfl) (by kernel_rfl) (by kernel_rfl) (by kernel_rfl) (by kernel_rfl) (fun _ _ _ h => h) (fun W hW => y_loadB1 ha123 hW (i := 1) rfl rfl rfl Try.underlying29 rfl) ?_
    clear ha123 a123; intro a124 ha124
    refine d_y 8 ha124 rfl rfl (fun _ => (m116.to ⟨.inl rfl, .inl rfl, trivial⟩)) (by kernel_rfl) (by kernel_rfl) (by kernel_rfl) (by rfl) (fun _ _ _ h => h) (fun W => y_move ha124 rfl) ?_
    clear ha124 a124; intro a125 ha125
    refine d_y 9 ha125 rfl rfl (fun _ => (m116.to ⟨.inl rfl, .inl rfl, trivial⟩)) (by kernel_rfl) (by kernel_rfl) (by kernel_rfl) (by rfl) (fun _ _ _ h => h) (fun W => y_add ha125 rfl rfl (r := ((k + 1 : Nat) : Int)) (by rw [IntWalk.i64_in _ (by omega)]; omega)) ?_
    clear ha125 a125; intro a126 ha126
    have m127 := m116.dropS 2 rfl (k + 1) (by rw [List.length_map]; omega) (by rw [List.length_map]; omega); clear m116
    refine d_y 10 ha126 rfl rfl (fun _ => (m127.to ⟨.inl rfl, .inl rfl, trivial⟩)) (by kernel_rfl) (by kernel_rfl) (by kernel_rfl) (by rfl) (fun _ _ _ h => h) (fun W => y_sliceLn ha126 (k + 1) rfl rfl Try.underlying29 sz32co rfl (by rw [List.length_map]; omega)) ?_
    clear ha126 a126; intro a128 ha128
    refine stepE_only 11 rfl (by kernel_rfl) rfl (fun K hK => ?_)
    refine e_call ha128 Try.func41 rfl rfl rfl rfl (plainE_fr _ ((es.map entD).drop (k + 1)) _ _ (by simp; omega) (m127.into [(1, 2)] (by decide) rfl)) ?_
    rintro e w129 ⟨pl129, cl129, rfl, hm129⟩
    have mx129 := m127.back hm129 [(2, 1), (60, 2)] (by decide); clear hm129 m127
    have m129 : MemOk _ _ [(2, _), (60, _), (1, _), (3, _), (4, _), (5, _), (6, _), (7, _), (8, _)] _ := mx129.only [2, 60, 1, 3, 4, 5, 6, 7, 8]; clear mx129
    refine ⟨_, rfl, fun a130 ha130 => ?_⟩; clear ha128 a128
    refine hK _ _ (m129.to ⟨.inl rfl, .inl rfl, trivial⟩) ?_; clear hK K
    refine d_y 12 ha130 rfl rfl (fun _ => (m129.to ⟨.inl rfl, .inl rfl, trivial⟩)) (by kernel_rfl) (by kernel_rfl) (by kernel_rfl) (by rfl) (fun _ _ _ h => h) (fun W => y_nilCheck ha130 rfl) ?_
    clear ha130 a130; intro a131 ha131
    refine d_y 13 ha131 rfl rfl (fun _ => (m129.to ⟨.inl rfl, .inl rfl, trivial⟩)) (by kernel_rfl) (by kernel_rfl) (by kernel_rfl) (by rfl) (fun _ _ _ h => h) (fun W => y_fieldAddr ha131 (off := 0) rfl Try.underlying56 rfl (s := 4) (by kernel_rfl) rfl) ?_
    clear ha131 a131; intro a132 ha132
    refine d_y 14 ha132 rfl rfl (fun _ => (m129.to ⟨.inl rfl, .inl rfl, trivial⟩)) (by kernel_rfl) (by kernel_rfl) (by kernel_rfl) (by rfl) (fun _ _ _ h => h) (fun W => y_fieldAddr ha132 (off := 0) rfl Try.underlying54 rfl (s := 3) (by kernel_rfl) rfl) ?_
    clear ha132 a132; intro a133 ha133
    refine stepE_end 15 rfl (by kernel_rfl) rfl (by rfl) (fun K hK => ?_)
    refine e_storeR ha133 m129 1 rfl rfl rfl rfl rfl sz28co (by dsimp only [List.take, List.drop, List.append_eq, List.append] <;> rfl) ?_
    clear m129; intro w134 m134 hB134
    clear hB134
    refine hK _ _ ?_; clear hK K
    refine d_y 16 ha133 rfl rfl (fun h => (Bool.false_ne_true (h.symm.trans (by rfl))).elim) (by kernel_rfl) (by kernel_rfl) (by kernel_rfl) (by rfl) (fun _ _ _ h => h) (fun W => y_nilCheck ha133 rfl) ?_
    clear ha133 a133; intro a135 ha135
    refine d_y 17 ha135 rfl rfl (fun h => (Bool.false_ne_true (h.symm.trans (by rfl))).elim) (by kernel_rfl) (by kernel_rfl) (by kernel_rfl) (by rfl) (fun _ _ _ h => h) (fun W => y_fieldAddr ha135 (off := 0) rfl Try.underlying56 rfl (s := 4) (by kernel_rfl) rfl) ?_
    clear ha135 a135; intro a136 ha136
    refine d_y 18 ha136 rfl rfl (fun h => (Bool.false_ne_true (h.symm.trans (by rfl))).elim) (by kernel_rfl) (by kernel_rfl) (by kernel_rfl) (by rfl) (fun _ _ _ h => h) (fun W => y_fieldAddr ha136 (off := 4) rfl Try.underlying54 rfl (s := 0) (by kernel_rfl) rfl) ?_
    clear ha136 a136; intro a137 ha137
    refine stepE_end 19 rfl (by kernel_rfl) rfl (by rfl) (fun K hK => ?_)
    refine e_store1 ha137 m134 1 rfl rfl rfl rfl rfl sz29co (by dsimp only [List.set] <;> rfl) ?_
    clear m134; intro w138 m138 hB138
    clear hB138
    refine hK _ _ ?_; clear hK K
    refine wpAnyE_done (by kernel_rfl) ?_ _
    refine hK9 _ _ ?_; clear hK9; try clear K9
    refine wp_seq_k (fun K10 hK10 => ?_)
    have ha139 : Has 54 [(6, _)] a137 := ha137.only [6]; clear ha137
    refine wp_region_lit ?_
    refine st_y ha139 rfl (y_assign ha139 rfl) ?_
    clear ha139 a137; intro a140 ha140
    refine wpList_nil ?_
    refine hK10 _ _ ?_; clear hK10; try clear K10
    refine wp_ret ?_
    try dsimp only [Exit.then, Exit.inBlock]
    refine (ret1 (fn := Try.f19) ha140 rfl rfl ?_)
    rw [← List.map_drop] at m138
    exact ⟨_, _, _, _, _, _, rfl, m138.ren [(1, 1), (2, 60), (3, 7), (4, 8)] (by decide)⟩
end Go.Proofs.Ytmdckdhogbbhlaa.K
