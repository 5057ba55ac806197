/- rlog: what reads a log. -/
import Derived.Test.YtmdckdhogbbhlaaLog1
namespace Go.Proofs.Ytmdckdhogbbhlaa.K
open Go.ChangeShapes Go.WideShapes Go.ChangeAt Go.RowKit
set_option linter.unusedVariables false
set_option linter.unusedSimpArgs false



theorem sz32ha : (Try.prog.info? 32).map (·.size) = some 4 := by kernel_rfl
theorem sz32te : (Try.prog.info? 32).map (·.size) = some 4 := by kernel_rfl
theorem sz32fr : (Try.prog.info? 32).map (·.size) = some 4 := by kernel_rfl
theorem sz28lb : (Try.prog.info? 28).map (·.size) = some 4 := by kernel_rfl
theorem zc28lb : ((Try.prog.info? 28).bind (·.zero)).map (·.cells.toList) = some [.int .i64 0, .int .i64 0, .slice none 0 0, .slice none 0 0] := by kernel_rfl

theorem MemOk.callFF {w w0 : World} {X : Cx} {M : Mm} (m : MemOk X w0 M w) (i j : Nat) (hi : lk M i = none) (hj : lk ((i, Res.gone) :: M) j = none) {w' : World} (hb : Below w.heap.size w w') {u v : Value} {d d2 : D} (h : Rd (New w) w' u d) (h2 : Rd (New w) w' v d2) : MemOk X w0 ((j, .dat v d2) :: (i, .dat u d) :: M) w' := by
  have m1 := m.callF i hi hb h
  refine m1.dat j ?_ (h2.cast (fun b hb' => ?_))
  · rw [lk_cons] at hj ⊢
    split at hj
    · cases hj
    · rename_i e; rw [if_neg e]; exact hj
  · have := m.free_out (.inr hb')
    exact free_add rfl this
set_option maxRecDepth 100000
set_option maxHeartbeats 4000000
theorem last_any (B : Nat) (bi : Int) (n cl : Nat) (pl : Option Addr) (vt vc vd : Value) (w0 : World) (hB : Blk w0 B 56 [.int .i64 bi, vt, vc, vd, .slice pl n cl]) (hbi : -1000000000000000000 ≤ bi ∧ bi ≤ 1000000000000000000) (hn : n ≤ 1000000) :
    Calls Try.prog 25 #[.pointer (some ⟨B, 0, none⟩)] w0 fun e w' => e = .returned (.int .i64 (bi + n)) ∧ Below w0.heap.size w0 w' := by
  refine enter (fn := Try.f25) Try.func25 rfl Try.ntmps25 rfl (fun a0 ha0 => ?_)
  simp only [List.zipIdx_cons, List.zipIdx_nil, List.map_cons, List.map_nil, Nat.reduceAdd, Nat.zero_add] at ha0
  have m0 := MemOk.start (fun _ => False) w0
  refine wp_seq_k (fun K0 hK0 => ?_)
  refine wp_region_lit ?_
  refine st_y ha0 rfl (y_assign ha0 rfl) ?_
  clear ha0 a0; intro a1 ha1
  refine wpList_nil ?_
  refine hK0 _ _ ?_; clear hK0; try clear K0
  refine wp_seq_k (fun K1 hK1 => ?_)
  have m2 : MemOk _ _ [] _ := m0.only []; clear m0
  refine region_m 12 (B := []) (m2.to trivial) m2 (by kernel_rfl) (fun w3 mB3 m3 => ?_); clear m2 mB3
  refine d_y 0 ha1 rfl rfl (fun _ => (m3.to trivial)) (by kernel_rfl) (by kernel_rfl) (by kernel_rfl) (by rfl) (fun _ _ _ h => h) (fun W => y_move ha1 rfl) ?_
  clear ha1 a1; intro a4 ha4
  refine d_y 1 ha4 rfl rfl (fun _ => (m3.to trivial)) (by kernel_rfl) (by kernel_rfl) (by kernel_rfl) (by rfl) (fun _ _ _ h => h) (fun W => y_nilCheck ha4 rfl) ?_
  clear ha4 a4; intro a5 ha5
  refine d_y 2 ha5 rfl rfl (fun _ => (m3.to trivial)) (by kernel_rfl) (by kernel_rfl) (by kernel_rfl) (by rfl) (fun _ _ _ h => h) (fun W => y_fieldAddr ha5 (off := 0) rfl Try.underlying54 rfl (s := 3) (by kernel_rfl) rfl) ?_
  clear ha5 a5; intro a6 ha6
  refine d_y 3 ha6 rfl rfl (fun _ => (m3.to trivial)) (by kernel_rfl) (by kernel_rfl) (by kernel_rfl) (by rfl) (fun _ _ _ h => h) (fun W => y_fieldAddr ha6 (off := 0) rfl Try.underlying28 rfl (s := 0) (by kernel_rfl) rfl) ?_
  clear ha6 a6; intro a7 ha7
  refine d_h 4 ha7 rfl rfl (m3.to trivial) (by kernel_rfl) (by kernel_rfl) (by kernel_rfl) (by kernel_rfl) (by kernel_rfl) (fun _ _ _ h => h) (fun W hW => y_loadX1 ha7 (hB.now hW rfl) rfl rfl Try.underlying3 rfl) ?_
  clear ha7 a7; intro a8 ha8
  refine d_y 5 ha8 rfl rfl (fun _ => (m3.to trivial)) (by kernel_rfl) (by kernel_rfl) (by kernel_rfl) (by rfl) (fun _ _ _ h => h) (fun W => y_move ha8 rfl) ?_
  clear ha8 a8; intro a9 ha9
  refine d_y 6 ha9 rfl rfl (fun _ => (m3.to trivial)) (by kernel_rfl) (by kernel_rfl) (by kernel_rfl) (by rfl) (fun _ _ _ h => h) (fun W => y_nilCheck ha9 rfl) ?_
  clear ha9 a9; intro a10 ha10
  refine d_y 7 ha10 rfl rfl (fun _ => (m3.to trivial)) (by kernel_rfl) (by kernel_rfl) (by kernel_rfl) (by rfl) (fun _ _ _ h => h) (fun W => y_fieldAddr ha10 (off := 4) rfl Try.underlying54 rfl (s := 0) (by kernel_rfl) rfl) ?_
  clear ha10 a10; intro a11 ha11
  refine d_h 8 ha11 rfl rfl (m3.to trivial) (by kernel_rfl) (by kernel_rfl) (by kernel_rfl) (by kernel_rfl) (by kernel_rfl) (fun _ _ _ h => h) (fun W hW => y_loadX1 ha11 (hB.now hW rfl) rfl rfl Try.underlying29 rfl) ?_
  clear ha11 a11; intro a12 ha12
  refine d_y 9 ha12 rfl rfl (fun _ => (m3.to trivial)) (by kernel_rfl) (by kernel_rfl) (by kernel_rfl) (by rfl) (fun _ _ _ h => h) (fun W => y_len ha12 rfl Try.underlying29) ?_
  clear ha12 a12; intro a13 ha13
  refine d_y 10 ha13 rfl rfl (fun _ => (m3.to trivial)) (by kernel_rfl) (by kernel_rfl) (by kernel_rfl) (by rfl) (fun _ _ _ h => h) (fun W => y_add ha13 rfl rfl (r := bi + n) (IntWalk.i64_in _ (by omega))) ?_
  clear ha13 a13; intro a14 ha14
  refine d_y 11 ha14 rfl rfl (fun _ => (m3.to trivial)) (by kernel_rfl) (by kernel_rfl) (by kernel_rfl) (by rfl) (fun _ _ _ h => h) (fun W => y_assign ha14 rfl) ?_
  clear ha14 a14; intro a15 ha15
  refine wpAnyE_done (by kernel_rfl) ?_ _
  refine hK1 _ _ ?_; clear hK1; try clear K1
  refine wp_ret ?_
  try dsimp only [Exit.then, Exit.inBlock]
  refine (ret1 (fn := Try.f25) ha15 rfl rfl ?_)
  exact ⟨rfl, m3.below⟩
theorem place_yes (B : Nat) (bi : Int) (n cl : Nat) (pl : Option Addr) (vt vc vd : Value) (w0 : World) (k : Nat) (i : Int) (hB : Blk w0 B 56 [.int .i64 bi, vt, vc, vd, .slice pl n cl]) (hbi : -1000000000000000000 ≤ bi ∧ bi ≤ 1000000000000000000) (hn : n ≤ 1000000) (hk : k < n) (hi : i = bi + 1 + k) :
    Calls Try.prog 40 #[.pointer (some ⟨B, 0, none⟩), .int .i64 i] w0 fun e w' => e = .returned (.tuple #[.int .i64 k, .bool true]) ∧ Below w0.heap.size w0 w' := by
  refine enter (fn := Try.f40) Try.func40 rfl Try.ntmps40 rfl (fun a0 ha0 => ?_)
  simp only [List.zipIdx_cons, List.zipIdx_nil, List.map_cons, List.map_nil, Nat.reduceAdd, Nat.zero_add] at ha0
  have m0 := MemOk.start (fun _ => False) w0
  refine wp_seq_k (fun K0 hK0 => ?_)
  refine wp_region_lit ?_
  refine st_y ha0 rfl (y_assign ha0 rfl) ?_
  clear ha0 a0; intro a1 ha1
  refine st_y ha1 rfl (y_assign ha1 rfl) ?_
  clear ha1 a1; intro a2 ha2
  refine wpList_nil ?_
  refine hK0 _ _ ?_; clear hK0; try clear K0
  refine wp_seq_k (fun K1 hK1 => ?_)
  refine wp_seq_k (fun K2 hK2 => ?_)
  refine wp_region_lit ?_
  refine st_y ha2 rfl (y_move ha2 rfl) ?_
  clear ha2 a2; intro a3 ha3
  refine st_y ha3 rfl (y_move ha3 rfl) ?_
  clear ha3 a3; intro a4 ha4
  refine st_y ha4 rfl (y_nilCheck ha4 rfl) ?_
  clear ha4 a4; intro a5 ha5
  refine st_y ha5 rfl (y_fieldAddr ha5 (off := 0) rfl Try.underlying54 rfl (s := 3) (by kernel_rfl) rfl) ?_
  clear ha5 a5; intro a6 ha6
  refine st_y ha6 rfl (y_fieldAddr ha6 (off := 0) rfl Try.underlying28 rfl (s := 0) (by kernel_rfl) rfl) ?_
  clear ha6 a6; intro a7 ha7
  refine st_y ha7 rfl (y_loadX1 ha7 (hB.now m0 rfl) rfl rfl Try.underlying3 rfl) ?_
  clear ha7 a7; intro a8 ha8
  refine st_y ha8 rfl (y_leq ha8 rfl rfl) ?_
  clear ha8 a8; intro a9 ha9
  refine st_y ha9 rfl (y_move ha9 rfl) ?_
  clear ha9 a9; intro a10 ha10
  refine bool_cases ha10 (t := 13) rfl (fun hb11 ha11 => ?_) (fun hb11 ha11 => ?_)
  · exact absurd hb11 (by simp; omega)
  clear ha10 hb11
  refine st_g ha11 rfl rfl rfl rfl (y_move ha11 rfl) ?_
  clear ha11 a10; intro a12 ha12
  refine st_g ha12 rfl rfl rfl rfl (y_move ha12 rfl) ?_
  clear ha12 a12; intro a13 ha13
  refine st_ge ha13 rfl rfl rfl rfl (fun K hK => ?_)
  refine e_call ha13 Try.func25 rfl rfl rfl rfl (last_any _ _ _ _ _ _ _ _ _ (hB.now m0 rfl) (by omega) (by first | omega | (simp; omega) | simp)) ?_
  rintro e w14 ⟨rfl, hb14⟩
  have m15 := m0.later hb14
  clear m0
  clear hb14
  refine ⟨_, rfl, fun a16 ha16 => ?_⟩; clear ha13 a13
  refine hK _ _ ?_; clear hK K
  refine st_g ha16 rfl rfl rfl rfl (y_gtr ha16 rfl rfl) ?_
  clear ha16 a16; intro a17 ha17
  refine st_y ha17 rfl (y_pickF ha17 rfl rfl) ?_
  clear ha17 a17; intro a18 ha18
  refine wpList_nil ?_
  refine hK2 _ _ ?_; clear hK2; try clear K2
  refine bool_cases ha18 (t := 18) rfl (fun hb19 ha19 => ?_) (fun hb19 ha19 => ?_)
  · exact absurd hb19 (by simp; omega)
  clear ha18 hb19
  refine wp_cond_false (ha19.ev (x := .tmp 18) rfl) ?_
  refine wp_skip ?_
  refine hK1 _ _ ?_; clear hK1; try clear K1
  refine wp_seq_k (fun K3 hK3 => ?_)
  have ha20 : Has 27 [(0, _), (1, _), (4, _), (5, _)] a18 := ha19.only [0, 1, 4, 5]; clear ha19
  refine wp_region_lit ?_
  refine st_y ha20 rfl (y_move ha20 rfl) ?_
  clear ha20 a18; intro a21 ha21
  refine st_y ha21 rfl (y_move ha21 rfl) ?_
  clear ha21 a21; intro a22 ha22
  refine st_y ha22 rfl (y_nilCheck ha22 rfl) ?_
  clear ha22 a22; intro a23 ha23
  refine st_y ha23 rfl (y_fieldAddr ha23 (off := 0) rfl Try.underlying54 rfl (s := 3) (by kernel_rfl) rfl) ?_
  clear ha23 a23; intro a24 ha24
  refine st_y ha24 rfl (y_fieldAddr ha24 (off := 0) rfl Try.underlying28 rfl (s := 0) (by kernel_rfl) rfl) ?_
  clear ha24 a24; intro a25 ha25
  refine st_y ha25 rfl (y_loadX1 ha25 (hB.now m15 rfl) rfl rfl Try.underlying3 rfl) ?_
  clear ha25 a25; intro a26 ha26
  refine st_y ha26 rfl (y_sub ha26 rfl rfl (r := (k : Int) + 1) (by rw [IntWalk.i64_in _ (by omega)]; omega)) ?_
  clear ha26 a26; intro a27 ha27
  refine st_y ha27 rfl (y_sub ha27 rfl rfl (r := (k : Int)) (by rw [IntWalk.i64_in _ (by omega)]; omega)) ?_
  clear ha27 a27; intro a28 ha28
  refine st_y ha28 rfl (y_assign ha28 rfl) ?_
  clear ha28 a28; intro a29 ha29
  refine st_y ha29 rfl (y_assign ha29 rfl) ?_
  clear ha29 a29; intro a30 ha30
  refine wpList_nil ?_
  refine hK3 _ _ ?_; clear hK3; try clear K3
  refine wp_ret ?_
  try dsimp only [Exit.then, Exit.inBlock]
  refine (ret2 (fn := Try.f40) ha30 rfl rfl rfl ?_)
  exact ⟨rfl, m15.below⟩
theorem place_no (B : Nat) (bi : Int) (n cl : Nat) (pl : Option Addr) (vt vc vd : Value) (w0 : World) (i : Int) (hB : Blk w0 B 56 [.int .i64 bi, vt, vc, vd, .slice pl n cl]) (hbi : -1000000000000000000 ≤ bi ∧ bi ≤ 1000000000000000000) (hn : n ≤ 1000000) (hi : i ≤ bi ∨ bi + n < i) :
    Calls Try.prog 40 #[.pointer (some ⟨B, 0, none⟩), .int .i64 i] w0 fun e w' => e = .returned (.tuple #[.int .i64 0, .bool false]) ∧ Below w0.heap.size w0 w' := by
  refine enter (fn := Try.f40) Try.func40 rfl Try.ntmps40 rfl (fun a0 ha0 => ?_)
  simp only [List.zipIdx_cons, List.zipIdx_nil, List.map_cons, List.map_nil, Nat.reduceAdd, Nat.zero_add] at ha0
  have m0 := MemOk.start (fun _ => False) w0
  refine wp_seq_k (fun K0 hK0 => ?_)
  refine wp_region_lit ?_
  refine st_y ha0 rfl (y_assign ha0 rfl) ?_
  clear ha0 a0; intro a1 ha1
  refine st_y ha1 rfl (y_assign ha1 rfl) ?_
  clear ha1 a1; intro a2 ha2
  refine wpList_nil ?_
  refine hK0 _ _ ?_; clear hK0; try clear K0
  refine wp_seq_k (fun K1 hK1 => ?_)
  refine wp_seq_k (fun K2 hK2 => ?_)
  refine wp_region_lit ?_
  refine st_y ha2 rfl (y_move ha2 rfl) ?_
  clear ha2 a2; intro a3 ha3
  refine st_y ha3 rfl (y_move ha3 rfl) ?_
  clear ha3 a3; intro a4 ha4
  refine st_y ha4 rfl (y_nilCheck ha4 rfl) ?_
  clear ha4 a4; intro a5 ha5
  refine st_y ha5 rfl (y_fieldAddr ha5 (off := 0) rfl Try.underlying54 rfl (s := 3) (by kernel_rfl) rfl) ?_
  clear ha5 a5; intro a6 ha6
  refine st_y ha6 rfl (y_fieldAddr ha6 (off := 0) rfl Try.underlying28 rfl (s := 0) (by kernel_rfl) rfl) ?_
  clear ha6 a6; intro a7 ha7
  refine st_y ha7 rfl (y_loadX1 ha7 (hB.now m0 rfl) rfl rfl Try.underlying3 rfl) ?_
  clear ha7 a7; intro a8 ha8
  refine st_y ha8 rfl (y_leq ha8 rfl rfl) ?_
  clear ha8 a8; intro a9 ha9
  refine st_y ha9 rfl (y_move ha9 rfl) ?_
  clear ha9 a9; intro a10 ha10
  refine bool_cases ha10 (t := 13) rfl (fun hb11 ha11 => ?_) (fun hb11 ha11 => ?_)
  · skip
    clear ha10
    try simp only [decide_eq_true_eq, decide_eq_false_iff_not, Bool.not_eq_true, Bool.not_eq_false, Bool.not_eq_eq_eq_not, Bool.not_true, Bool.not_false, Bool.not_not, Int.not_lt, Int.not_le, ne_eq, Decidable.not_not] at hb11
    refine st_skip ha11 rfl rfl rfl rfl ?_
    clear ha11 a10; intro a12 ha12
    refine st_skip ha12 rfl rfl rfl rfl ?_
    clear ha12 a12; intro a13 ha13
    refine st_skip ha13 rfl rfl rfl rfl ?_
    clear ha13 a13; intro a14 ha14
    refine st_skip ha14 rfl rfl rfl rfl ?_
    clear ha14 a14; intro a15 ha15
    refine st_y ha15 rfl (y_pickT ha15 rfl rfl) ?_
    clear ha15 a15; intro a16 ha16
    refine wpList_nil ?_
    refine hK2 _ _ ?_; clear hK2; try clear K2
    refine wp_cond_true (ha16.ev (x := .tmp 18) rfl) ?_
    refine wp_seq_k (fun K3 hK3 => ?_)
    have ha17 : Has 27 [(0, _), (1, _), (4, _), (5, _)] a16 := ha16.only [0, 1, 4, 5]; clear ha16
    refine wp_region_lit ?_
    refine st_y ha17 rfl (y_assign ha17 rfl) ?_
    clear ha17 a16; intro a18 ha18
    refine st_y ha18 rfl (y_assign ha18 rfl) ?_
    clear ha18 a18; intro a19 ha19
    refine wpList_nil ?_
    refine hK3 _ _ ?_; clear hK3; try clear K3
    refine wp_ret ?_
    try dsimp only [Exit.then, Exit.inBlock]
    refine (ret2 (fn := Try.f40) ha19 rfl rfl rfl ?_)
    exact ⟨rfl, m0.below⟩
  · skip
    clear ha10
    try simp only [decide_eq_true_eq, decide_eq_false_iff_not, Bool.not_eq_true, Bool.not_eq_false, Bool.not_eq_eq_eq_not, Bool.not_true, Bool.not_false, Bool.not_not, Int.not_lt, Int.not_le, ne_eq, Decidable.not_not] at hb11
    refine st_g ha11 rfl rfl rfl rfl (y_move ha11 rfl) ?_
    clear ha11 a10; intro a20 ha20
    refine st_g ha20 rfl rfl rfl rfl (y_move ha20 rfl) ?_
    clear ha20 a20; intro a21 ha21
    refine st_ge ha21 rfl rfl rfl rfl (fun K hK => ?_)
    refine e_call ha21 Try.func25 rfl rfl rfl rfl (last_any _ _ _ _ _ _ _ _ _ (hB.now m0 rfl) (by omega) (by first | omega | (simp; omega) | simp)) ?_
    rintro e w22 ⟨rfl, hb22⟩
    have m23 := m0.later hb22
    clear m0
    clear hb22
    refine ⟨_, rfl, fun a24 ha24 => ?_⟩; clear ha21 a21
    refine hK _ _ ?_; clear hK K
    refine st_g ha24 rfl rfl rfl rfl (y_gtr ha24 rfl rfl) ?_
    clear ha24 a24; intro a25 ha25
    refine st_y ha25 rfl (y_pickF ha25 rfl rfl) ?_
    clear ha25 a25; intro a26 ha26
    refine wpList_nil ?_
    refine hK2 _ _ ?_; clear hK2; try clear K2
    refine bool_cases ha26 (t := 18) rfl (fun hb27 ha27 => ?_) (fun hb27 ha27 => ?_)
    rotate_left
    · exact absurd hb27 (by simp at *; omega)
    clear ha26 hb27
    refine wp_cond_true (ha27.ev (x := .tmp 18) rfl) ?_
    refine wp_seq_k (fun K4 hK4 => ?_)
    have ha28 : Has 27 [(0, _), (1, _), (4, _), (5, _)] a26 := ha27.only [0, 1, 4, 5]; clear ha27
    refine wp_region_lit ?_
    refine st_y ha28 rfl (y_assign ha28 rfl) ?_
    clear ha28 a26; intro a29 ha29
    refine st_y ha29 rfl (y_assign ha29 rfl) ?_
    clear ha29 a29; intro a30 ha30
    refine wpList_nil ?_
    refine hK4 _ _ ?_; clear hK4; try clear K4
    refine wp_ret ?_
    try dsimp only [Exit.then, Exit.inBlock]
    refine (ret2 (fn := Try.f40) ha30 rfl rfl rfl ?_)
    exact ⟨rfl, m23.below⟩
theorem place_from (B : Nat) (bi : Int) (n cl : Nat) (pl : Option Addr) (vt vc vd : Value) (w0 : World) (k : Nat) (i : Int) (hB : Blk w0 B 56 [.int .i64 bi, vt, vc, vd, .slice pl n cl]) (hbi : -1000000000000000000 ≤ bi ∧ bi ≤ 1000000000000000000) (hn : n ≤ 1000000) (hk0 : (i ≤ bi ∧ k = 0) ∨ i = bi + 1 + k) (hk : i ≤ bi + n) :
    Calls Try.prog 40 #[.pointer (some ⟨B, 0, none⟩), .int .i64 i] w0 fun e w' => ∃ b, e = .returned (.tuple #[.int .i64 k, .bool b]) ∧ Below w0.heap.size w0 w' := by
  rcases hk0 with ⟨h1, rfl⟩ | h1
  · exact (place_no B bi n cl pl vt vc vd w0 i hB hbi hn (.inl h1)).mono (fun e w' h => ⟨false, h⟩)
  · by_cases hkn : k < n
    · exact (place_yes B bi n cl pl vt vc vd w0 k i hB hbi hn hkn h1).mono (fun e w' h => ⟨true, h⟩)
    · omega
theorem has_yes (B : Nat) (bi bt : Int) (cf d : List Int) (es : List (Int × Int × Int × List Int)) (pc pd pl : Option Addr) (cc cd cl : Nat) (w0 : World) (k : Nat) (ix tm kd : Int) (v : Value) {ei et ek : Int} {ed : List Int} (hB : Blk w0 B 56 [.int .i64 bi, .int .i64 bt, .slice pc cf.length cc, .slice pd d.length cd, .slice pl (es.map entD).length cl]) (hl : Rd (fun _ => True) w0 (.slice pl (es.map entD).length cl) (.l 4 (es.map entD))) (hbi : -1000000000000000000 ≤ bi ∧ bi ≤ 1000000000000000000) (hn : es.length ≤ 1000000) (hes : es[k]? = some (ei, et, ek, ed)) (hi : ix = bi + 1 + k) :
    Calls Try.prog 35 #[.pointer (some ⟨B, 0, none⟩), .agg #[.int .i64 ix, .int .i64 tm, .int .i64 kd, v]] w0 fun e w' => e = .returned (.bool (decide (et = tm))) ∧ Below w0.heap.size w0 w' := by
  have hk := (List.getElem?_eq_some_iff.1 hes).1
  refine enter (fn := Try.f35) Try.func35 rfl Try.ntmps35 rfl (fun a0 ha0 => ?_)
  simp only [List.zipIdx_cons, List.zipIdx_nil, List.map_cons, List.map_nil, Nat.reduceAdd, Nat.zero_add] at ha0
  have m0 := MemOk.start (fun _ => False) w0
  refine wp_seq_k (fun K0 hK0 => ?_)
  refine wp_region_lit ?_
  refine wpList_plain rfl (fun K hK => ?_)
  refine e_box ha0 m0 5 (cs := [_, _, _, _]) rfl rfl rfl ?_
  clear ha0 a0 m0; intro g1 a2 w2 ha2 m2 hB2 hg2
  clear hB2 hg2
  refine hK _ _ ?_; clear hK K
  refine st_y ha2 rfl (y_assign ha2 rfl) ?_
  clear ha2 a2; intro a3 ha3
  refine wpList_nil ?_
  refine hK0 _ _ ?_; clear hK0; try clear K0
  refine wp_seq_k (fun K1 hK1 => ?_)
  refine wp_region_lit ?_
  refine st_y ha3 rfl (y_move ha3 rfl) ?_
  clear ha3 a3; intro a4 ha4
  refine st_y ha4 rfl (y_fieldAddr ha4 (off := 0) rfl Try.underlying32 rfl (s := 0) (by kernel_rfl) rfl) ?_
  clear ha4 a4; intro a5 ha5
  refine st_y ha5 rfl (y_loadB1 ha5 m2 (i := 5) rfl rfl rfl Try.underlying3 rfl) ?_
  clear ha5 a5; intro a6 ha6
  refine wpList_plain rfl (fun K hK => ?_)
  refine e_call ha6 Try.func40 rfl rfl rfl rfl (place_yes _ _ _ _ _ _ _ _ _ k _ (hB.now m2 rfl) (by omega) (by first | omega | (simp; omega) | simp) (by simp; omega) (by omega)) ?_
  rintro e w7 ⟨rfl, hb7⟩
  have m8 := m2.later hb7
  clear m2
  clear hb7
  refine ⟨_, rfl, fun a9 ha9 => ?_⟩; clear ha6 a6
  refine hK _ _ ?_; clear hK K
  refine st_y ha9 rfl (y_move ha9 rfl) ?_
  clear ha9 a9; intro a10 ha10
  refine st_y ha10 rfl (y_extract ha10 rfl rfl) ?_
  clear ha10 a10; intro a11 ha11
  refine st_y ha11 rfl (y_extract ha11 rfl rfl) ?_
  clear ha11 a11; intro a12 ha12
  refine st_y ha12 rfl (y_assign ha12 rfl) ?_
  clear ha12 a12; intro a13 ha13
  refine st_y ha13 rfl (y_assign ha13 rfl) ?_
  clear ha13 a13; intro a14 ha14
  refine wpList_nil ?_
  refine hK1 _ _ ?_; clear hK1; try clear K1
  refine wp_seq_k (fun K2 hK2 => ?_)
  have ha15 : Has 28 [(0, _), (3, _), (4, _), (5, _), (6, _)] a14 := ha14.only [0, 3, 4, 5, 6]; clear ha14
  obtain ⟨gx17, ox17, vx17, hp17, hl17, hR17, hrg17⟩ := hl.extA (k) (r := [.v (.int .i64 ei), .v (.int .i64 et), .v (.int .i64 ek), .ns .u8 ed]) (ent_get hes)
  cases hp17; clear hl17
  rcases hR17 with _ | ⟨hd17_0, _ | ⟨hd17_1, _ | ⟨hd17_2, _ | ⟨hd17_3, _ | _⟩⟩⟩⟩
  obtain rfl := hd17_0.v_out
  clear hd17_0
  obtain rfl := hd17_1.v_out
  clear hd17_1
  obtain rfl := hd17_2.v_out
  clear hd17_2
  obtain ⟨p18, c18, hv18, hw18⟩ := hd17_3.ns_shape; subst hv18
  have m19 : MemOk _ _ [(5, _)] _ := m8.only [5]; clear m8
  refine region_m 15 (B := [(5, _)]) (m19.to ⟨.inl rfl, trivial⟩) m19 (by kernel_rfl) (fun w20 mB20 m20 => ?_); clear m19 mB20
  refine d_y 0 ha15 rfl rfl (fun _ => (m20.to ⟨.inl rfl, trivial⟩)) (by kernel_rfl) (by kernel_rfl) (by kernel_rfl) (by rfl) (fun _ _ _ h => h) (fun W => y_move ha15 rfl) ?_
  clear ha15 a14; intro a21 ha21
  refine d_y 1 ha21 rfl rfl (fun _ => (m20.to ⟨.inl rfl, trivial⟩)) (by kernel_rfl) (by kernel_rfl) (by kernel_rfl) (by rfl) (fun _ _ _ h => h) (fun W => y_move ha21 rfl) ?_
  clear ha21 a21; intro a22 ha22
  refine d_yg 2 ha22 rfl rfl rfl rfl rfl (fun _ => (m20.to ⟨.inl rfl, trivial⟩)) (by kernel_rfl) (by kernel_rfl) (by kernel_rfl) (by rfl) (fun _ _ _ h => h) (fun W => y_move ha22 rfl) ?_
  clear ha22 a22; intro a23 ha23
  refine d_yg 3 ha23 rfl rfl rfl rfl rfl (fun _ => (m20.to ⟨.inl rfl, trivial⟩)) (by kernel_rfl) (by kernel_rfl) (by kernel_rfl) (by rfl) (fun _ _ _ h => h) (fun W => y_nilCheck ha23 rfl) ?_
  clear ha23 a23; intro a24 ha24
  refine d_yg 4 ha24 rfl rfl rfl rfl rfl (fun _ => (m20.to ⟨.inl rfl, trivial⟩)) (by kernel_rfl) (by kernel_rfl) (by kernel_rfl) (by rfl) (fun _ _ _ h => h) (fun W => y_fieldAddr ha24 (off := 4) rfl Try.underlying54 rfl (s := 0) (by kernel_rfl) rfl) ?_
  clear ha24 a24; intro a25 ha25
  refine d_hg 5 ha25 rfl rfl rfl rfl rfl (m20.to ⟨.inl rfl, trivial⟩) (by kernel_rfl) (by kernel_rfl) (by kernel_rfl) (by kernel_rfl) (by kernel_rfl) (fun _ _ _ h => h) (fun W hW => y_loadX1 ha25 (hB.now hW rfl) rfl rfl Try.underlying29 rfl) ?_
  clear ha25 a25; intro a26 ha26
  refine d_yg 6 ha26 rfl rfl rfl rfl rfl (fun _ => (m20.to ⟨.inl rfl, trivial⟩)) (by kernel_rfl) (by kernel_rfl) (by kernel_rfl) (by rfl) (fun _ _ _ h => h) (fun W => y_move ha26 rfl) ?_
  clear ha26 a26; intro a27 ha27
  refine d_yg 7 ha27 rfl rfl rfl rfl rfl (fun _ => (m20.to ⟨.inl rfl, trivial⟩)) (by kernel_rfl) (by kernel_rfl) (by kernel_rfl) (by rfl) (fun _ _ _ h => h) (fun W => y_idx ha27 rfl rfl Try.underlying29 sz32ha (k) rfl (by rw [List.length_map]; exact hk)) ?_
  clear ha27 a27; intro a28 ha28
  refine d_yg 8 ha28 rfl rfl rfl rfl rfl (fun _ => (m20.to ⟨.inl rfl, trivial⟩)) (by kernel_rfl) (by kernel_rfl) (by kernel_rfl) (by rfl) (fun _ _ _ h => h) (fun W => y_fieldAddrQ ha28 1 rfl Try.underlying32 rfl (s := 0) (by kernel_rfl) rfl) ?_
  clear ha28 a28; intro a29 ha29
  refine d_hg 9 ha29 rfl rfl rfl rfl rfl (m20.to ⟨.inl rfl, trivial⟩) (by kernel_rfl) (by kernel_rfl) (by kernel_rfl) (by kernel_rfl) (by kernel_rfl) (fun _ _ _ h => h) (fun W hW => y_loadAt1 ha29 (hrg17 hW rfl) (q := 1) rfl rfl rfl Try.underlying3 rfl) ?_
  clear ha29 a29; intro a30 ha30
  refine d_yg 10 ha30 rfl rfl rfl rfl rfl (fun _ => (m20.to ⟨.inl rfl, trivial⟩)) (by kernel_rfl) (by kernel_rfl) (by kernel_rfl) (by rfl) (fun _ _ _ h => h) (fun W => y_fieldAddr ha30 (off := 1) rfl Try.underlying32 rfl (s := 0) (by kernel_rfl) rfl) ?_
  clear ha30 a30; intro a31 ha31
  refine d_hg 11 ha31 rfl rfl rfl rfl rfl (m20.to ⟨.inl rfl, trivial⟩) (by kernel_rfl) (by kernel_rfl) (by kernel_rfl) (by kernel_rfl) (by kernel_rfl) (fun _ _ _ h => h) (fun W hW => y_loadB1 ha31 hW (i := 5) rfl rfl rfl Try.underlying3 rfl) ?_
  clear ha31 a31; intro a32 ha32
  refine d_yg 12 ha32 rfl rfl rfl rfl rfl (fun _ => (m20.to ⟨.inl rfl, trivial⟩)) (by kernel_rfl) (by kernel_rfl) (by kernel_rfl) (by rfl) (fun _ _ _ h => h) (fun W => y_eql ha32 rfl rfl) ?_
  clear ha32 a32; intro a33 ha33
  refine d_y 13 ha33 rfl rfl (fun _ => (m20.to ⟨.inl rfl, trivial⟩)) (by kernel_rfl) (by kernel_rfl) (by kernel_rfl) (by rfl) (fun _ _ _ h => h) (fun W => y_pickT ha33 rfl rfl) ?_
  clear ha33 a33; intro a34 ha34
  refine d_y 14 ha34 rfl rfl (fun _ => (m20.to ⟨.inl rfl, trivial⟩)) (by kernel_rfl) (by kernel_rfl) (by kernel_rfl) (by rfl) (fun _ _ _ h => h) (fun W => y_assign ha34 rfl) ?_
  clear ha34 a34; intro a35 ha35
  refine wpAnyE_done (by kernel_rfl) ?_ _
  refine hK2 _ _ ?_; clear hK2; try clear K2
  refine wp_ret ?_
  try dsimp only [Exit.then, Exit.inBlock]
  refine (ret1 (fn := Try.f35) ha35 rfl rfl ?_)
  exact ⟨rfl, m20.below⟩
theorem has_no (B : Nat) (bi bt : Int) (cf d : List Int) (es : List (Int × Int × Int × List Int)) (pc pd pl : Option Addr) (cc cd cl : Nat) (w0 : World) (ix tm kd : Int) (v : Value) (hB : Blk w0 B 56 [.int .i64 bi, .int .i64 bt, .slice pc cf.length cc, .slice pd d.length cd, .slice pl (es.map entD).length cl]) (hl : Rd (fun _ => True) w0 (.slice pl (es.map entD).length cl) (.l 4 (es.map entD))) (hbi : -1000000000000000000 ≤ bi ∧ bi ≤ 1000000000000000000) (hn : es.length ≤ 1000000) (hi : ix ≤ bi ∨ bi + es.length < ix) :
    Calls Try.prog 35 #[.pointer (some ⟨B, 0, none⟩), .agg #[.int .i64 ix, .int .i64 tm, .int .i64 kd, v]] w0 fun e w' => e = .returned (.bool false) ∧ Below w0.heap.size w0 w' := by
  refine enter (fn := Try.f35) Try.func35 rfl Try.ntmps35 rfl (fun a0 ha0 => ?_)
  simp only [List.zipIdx_cons, List.zipIdx_nil, List.map_cons, List.map_nil, Nat.reduceAdd, Nat.zero_add] at ha0
  have m0 := MemOk.start (fun _ => False) w0
  refine wp_seq_k (fun K0 hK0 => ?_)
  refine wp_region_lit ?_
  refine wpList_plain rfl (fun K hK => ?_)
  refine e_box ha0 m0 5 (cs := [_, _, _, _]) rfl rfl rfl ?_
  clear ha0 a0 m0; intro g1 a2 w2 ha2 m2 hB2 hg2
  clear hB2 hg2
  refine hK _ _ ?_; clear hK K
  refine st_y ha2 rfl (y_assign ha2 rfl) ?_
  clear ha2 a2; intro a3 ha3
  refine wpList_nil ?_
  refine hK0 _ _ ?_; clear hK0; try clear K0
  refine wp_seq_k (fun K1 hK1 => ?_)
  refine wp_region_lit ?_
  refine st_y ha3 rfl (y_move ha3 rfl) ?_
  clear ha3 a3; intro a4 ha4
  refine st_y ha4 rfl (y_fieldAddr ha4 (off := 0) rfl Try.underlying32 rfl (s := 0) (by kernel_rfl) rfl) ?_
  clear ha4 a4; intro a5 ha5
  refine st_y ha5 rfl (y_loadB1 ha5 m2 (i := 5) rfl rfl rfl Try.underlying3 rfl) ?_
  clear ha5 a5; intro a6 ha6
  refine wpList_plain rfl (fun K hK => ?_)
  refine e_call ha6 Try.func40 rfl rfl rfl rfl (place_no _ _ _ _ _ _ _ _ _ _ (hB.now m2 rfl) (by omega) (by first | omega | (simp; omega) | simp) (by simp; omega)) ?_
  rintro e w7 ⟨rfl, hb7⟩
  have m8 := m2.later hb7
  clear m2
  clear hb7
  refine ⟨_, rfl, fun a9 ha9 => ?_⟩; clear ha6 a6
  refine hK _ _ ?_; clear hK K
  refine st_y ha9 rfl (y_move ha9 rfl) ?_
  clear ha9 a9; intro a10 ha10
  refine st_y ha10 rfl (y_extract ha10 rfl rfl) ?_
  clear ha10 a10; intro a11 ha11
  refine st_y ha11 rfl (y_extract ha11 rfl rfl) ?_
  clear ha11 a11; intro a12 ha12
  refine st_y ha12 rfl (y_assign ha12 rfl) ?_
  clear ha12 a12; intro a13 ha13
  refine st_y ha13 rfl (y_assign ha13 rfl) ?_
  clear ha13 a13; intro a14 ha14
  refine wpList_nil ?_
  refine hK1 _ _ ?_; clear hK1; try clear K1
  refine wp_seq_k (fun K2 hK2 => ?_)
  have ha15 : Has 28 [(0, _), (3, _), (4, _), (5, _), (6, _)] a14 := ha14.only [0, 3, 4, 5, 6]; clear ha14
  have m16 : MemOk _ _ [(5, _)] _ := m8.only [5]; clear m8
  refine region_m 15 (B := [(5, _)]) (m16.to ⟨.inl rfl, trivial⟩) m16 (by kernel_rfl) (fun w17 mB17 m17 => ?_); clear m16 mB17
  refine d_y 0 ha15 rfl rfl (fun _ => (m17.to ⟨.inl rfl, trivial⟩)) (by kernel_rfl) (by kernel_rfl) (by kernel_rfl) (by rfl) (fun _ _ _ h => h) (fun W => y_move ha15 rfl) ?_
  clear ha15 a14; intro a18 ha18
  refine d_y 1 ha18 rfl rfl (fun _ => (m17.to ⟨.inl rfl, trivial⟩)) (by kernel_rfl) (by kernel_rfl) (by kernel_rfl) (by rfl) (fun _ _ _ h => h) (fun W => y_move ha18 rfl) ?_
  clear ha18 a18; intro a19 ha19
  refine d_skip 2 ha19 rfl rfl rfl rfl rfl (fun _ => (m17.to ⟨.inl rfl, trivial⟩)) (by kernel_rfl) (by kernel_rfl) (by kernel_rfl) (by rfl) (fun _ _ _ h => h) ?_
  clear ha19 a19; intro a20 ha20
  refine d_skip 3 ha20 rfl rfl rfl rfl rfl (fun _ => (m17.to ⟨.inl rfl, trivial⟩)) (by kernel_rfl) (by kernel_rfl) (by kernel_rfl) (by rfl) (fun _ _ _ h => h) ?_
  clear ha20 a20; intro a21 ha21
  refine d_skip 4 ha21 rfl rfl rfl rfl rfl (fun _ => (m17.to ⟨.inl rfl, trivial⟩)) (by kernel_rfl) (by kernel_rfl) (by kernel_rfl) (by rfl) (fun _ _ _ h => h) ?_
  clear ha21 a21; intro a22 ha22
  refine d_skip 5 ha22 rfl rfl rfl rfl rfl (fun _ => (m17.to ⟨.inl rfl, trivial⟩)) (by kernel_rfl) (by kernel_rfl) (by kernel_rfl) (by rfl) (fun _ _ _ h => h) ?_
  clear ha22 a22; intro a23 ha23
  refine d_skip 6 ha23 rfl rfl rfl rfl rfl (fun _ => (m17.to ⟨.inl rfl, trivial⟩)) (by kernel_rfl) (by kernel_rfl) (by kernel_rfl) (by rfl) (fun _ _ _ h => h) ?_
  clear ha23 a23; intro a24 ha24
  refine d_skip 7 ha24 rfl rfl rfl rfl rfl (fun _ => (m17.to ⟨.inl rfl, trivial⟩)) (by kernel_rfl) (by kernel_rfl) (by kernel_rfl) (by rfl) (fun _ _ _ h => h) ?_
  clear ha24 a24; intro a25 ha25
  refine d_skip 8 ha25 rfl rfl rfl rfl rfl (fun _ => (m17.to ⟨.inl rfl, trivial⟩)) (by kernel_rfl) (by kernel_rfl) (by kernel_rfl) (by rfl) (fun _ _ _ h => h) ?_
  clear ha25 a25; intro a26 ha26
  refine d_skip 9 ha26 rfl rfl rfl rfl rfl (fun _ => (m17.to ⟨.inl rfl, trivial⟩)) (by kernel_rfl) (by kernel_rfl) (by kernel_rfl) (by rfl) (fun _ _ _ h => h) ?_
  clear ha26 a26; intro a27 ha27
  refine d_skip 10 ha27 rfl rfl rfl rfl rfl (fun _ => (m17.to ⟨.inl rfl, trivial⟩)) (by kernel_rfl) (by kernel_rfl) (by kernel_rfl) (by rfl) (fun _ _ _ h => h) ?_
  clear ha27 a27; intro a28 ha28
  refine d_skip 11 ha28 rfl rfl rfl rfl rfl (fun _ => (m17.to ⟨.inl rfl, trivial⟩)) (by kernel_rfl) (by kernel_rfl) (by kernel_rfl) (by rfl) (fun _ _ _ h => h) ?_
  clear ha28 a28; intro a29 ha29
  refine d_skip 12 ha29 rfl rfl rfl rfl rfl (fun _ => (m17.to ⟨.inl rfl, trivial⟩)) (by kernel_rfl) (by kernel_rfl) (by kernel_rfl) (by rfl) (fun _ _ _ h => h) ?_
  clear ha29 a29; intro a30 ha30
  refine d_y 13 ha30 rfl rfl (fun _ => (m17.to ⟨.inl rfl, trivial⟩)) (by kernel_rfl) (by kernel_rfl) (by kernel_rfl) (by rfl) (fun _ _ _ h => h) (fun W => y_pickF ha30 rfl rfl) ?_
  clear ha30 a30; intro a31 ha31
  refine d_y 14 ha31 rfl rfl (fun _ => (m17.to ⟨.inl rfl, trivial⟩)) (by kernel_rfl) (by kernel_rfl) (by kernel_rfl) (by rfl) (fun _ _ _ h => h) (fun W => y_assign ha31 rfl) ?_
  clear ha31 a31; intro a32 ha32
  refine wpAnyE_done (by kernel_rfl) ?_ _
  refine hK2 _ _ ?_; clear hK2; try clear K2
  refine wp_ret ?_
  try dsimp only [Exit.then, Exit.inBlock]
  refine (ret1 (fn := Try.f35) ha32 rfl rfl ?_)
  exact ⟨rfl, m17.below⟩
theorem term_at (B : Nat) (bi bt : Int) (cf d : List Int) (es : List (Int × Int × Int × List Int)) (pc pd pl : Option Addr) (cc cd cl : Nat) (w0 : World) (hB : Blk w0 B 56 [.int .i64 bi, .int .i64 bt, .slice pc cf.length cc, .slice pd d.length cd, .slice pl (es.map entD).length cl]) (hl : Rd (fun _ => True) w0 (.slice pl (es.map entD).length cl) (.l 4 (es.map entD))) (hbi : -1000000000000000000 ≤ bi ∧ bi ≤ 1000000000000000000) (hn : es.length ≤ 1000000) :
    Calls Try.prog 26 #[.pointer (some ⟨B, 0, none⟩), .int .i64 bi] w0 fun e w' => e = .returned (.int .i64 bt) ∧ Below w0.heap.size w0 w' := by
  refine enter (fn := Try.f26) Try.func26 rfl Try.ntmps26 rfl (fun a0 ha0 => ?_)
  simp only [List.zipIdx_cons, List.zipIdx_nil, List.map_cons, List.map_nil, Nat.reduceAdd, Nat.zero_add] at ha0
  have m0 := MemOk.start (fun _ => False) w0
  refine wp_seq_k (fun K0 hK0 => ?_)
  refine wp_region_lit ?_
  refine st_y ha0 rfl (y_assign ha0 rfl) ?_
  clear ha0 a0; intro a1 ha1
  refine wpList_nil ?_
  refine hK0 _ _ ?_; clear hK0; try clear K0
  refine wp_seq_k (fun K1 hK1 => ?_)
  refine wp_seq_k (fun K2 hK2 => ?_)
  refine wp_region_lit ?_
  refine st_y ha1 rfl (y_move ha1 rfl) ?_
  clear ha1 a1; intro a2 ha2
  refine st_y ha2 rfl (y_move ha2 rfl) ?_
  clear ha2 a2; intro a3 ha3
  refine st_y ha3 rfl (y_nilCheck ha3 rfl) ?_
  clear ha3 a3; intro a4 ha4
  refine st_y ha4 rfl (y_fieldAddr ha4 (off := 0) rfl Try.underlying56 rfl (s := 4) (by kernel_rfl) rfl) ?_
  clear ha4 a4; intro a5 ha5
  refine st_y ha5 rfl (y_fieldAddr ha5 (off := 0) rfl Try.underlying54 rfl (s := 3) (by kernel_rfl) rfl) ?_
  clear ha5 a5; intro a6 ha6
  refine st_y ha6 rfl (y_fieldAddr ha6 (off := 0) rfl Try.underlying28 rfl (s := 0) (by kernel_rfl) rfl) ?_
  clear ha6 a6; intro a7 ha7
  refine st_y ha7 rfl (y_loadX1 ha7 (hB.now m0 rfl) rfl rfl Try.underlying3 rfl) ?_
  clear ha7 a7; intro a8 ha8
  refine st_y ha8 rfl (y_eql ha8 rfl rfl) ?_
  clear ha8 a8; intro a9 ha9
  refine wpList_nil ?_
  refine hK2 _ _ ?_; clear hK2; try clear K2
  refine bool_cases ha9 (t := 14) rfl (fun hb10 ha10 => ?_) (fun hb10 ha10 => ?_)
  rotate_left
  · exact absurd hb10 (by simp)
  clear ha9 hb10
  refine wp_cond_true (ha10.ev (x := .tmp 14) rfl) ?_
  refine wp_seq_k (fun K3 hK3 => ?_)
  have ha11 : Has 39 [(0, _), (1, _), (4, _)] a9 := ha10.only [0, 1, 4]; clear ha10
  refine wp_region_lit ?_
  refine st_y ha11 rfl (y_move ha11 rfl) ?_
  clear ha11 a9; intro a12 ha12
  refine st_y ha12 rfl (y_nilCheck ha12 rfl) ?_
  clear ha12 a12; intro a13 ha13
  refine st_y ha13 rfl (y_fieldAddr ha13 (off := 0) rfl Try.underlying56 rfl (s := 4) (by kernel_rfl) rfl) ?_
  clear ha13 a13; intro a14 ha14
  refine st_y ha14 rfl (y_fieldAddr ha14 (off := 0) rfl Try.underlying54 rfl (s := 3) (by kernel_rfl) rfl) ?_
  clear ha14 a14; intro a15 ha15
  refine st_y ha15 rfl (y_fieldAddr ha15 (off := 1) rfl Try.underlying28 rfl (s := 0) (by kernel_rfl) rfl) ?_
  clear ha15 a15; intro a16 ha16
  refine st_y ha16 rfl (y_loadX1 ha16 (hB.now m0 rfl) rfl rfl Try.underlying3 rfl) ?_
  clear ha16 a16; intro a17 ha17
  refine st_y ha17 rfl (y_assign ha17 rfl) ?_
  clear ha17 a17; intro a18 ha18
  refine wpList_nil ?_
  refine hK3 _ _ ?_; clear hK3; try clear K3
  refine wp_ret ?_
  try dsimp only [Exit.then, Exit.inBlock]
  refine (ret1 (fn := Try.f26) ha18 rfl rfl ?_)
  exact ⟨rfl, m0.below⟩
theorem term_in (B : Nat) (bi bt : Int) (cf d : List Int) (es : List (Int × Int × Int × List Int)) (pc pd pl : Option Addr) (cc cd cl : Nat) (w0 : World) (k : Nat) (i : Int) {ei et ek : Int} {ed : List Int} (hB : Blk w0 B 56 [.int .i64 bi, .int .i64 bt, .slice pc cf.length cc, .slice pd d.length cd, .slice pl (es.map entD).length cl]) (hl : Rd (fun _ => True) w0 (.slice pl (es.map entD).length cl) (.l 4 (es.map entD))) (hbi : -1000000000000000000 ≤ bi ∧ bi ≤ 1000000000000000000) (hn : es.length ≤ 1000000) (hes : es[k]? = some (ei, et, ek, ed)) (hi : i = bi + 1 + k) :
    Calls Try.prog 26 #[.pointer (some ⟨B, 0, none⟩), .int .i64 i] w0 fun e w' => e = .returned (.int .i64 et) ∧ Below w0.heap.size w0 w' := by
  have hk := (List.getElem?_eq_some_iff.1 hes).1
  refine enter (fn := Try.f26) Try.func26 rfl Try.ntmps26 rfl (fun a0 ha0 => ?_)
  simp only [List.zipIdx_cons, List.zipIdx_nil, List.map_cons, List.map_nil, Nat.reduceAdd, Nat.zero_add] at ha0
  have m0 := MemOk.start (fun _ => False) w0
  refine wp_seq_k (fun K0 hK0 => ?_)
  refine wp_region_lit ?_
  refine st_y ha0 rfl (y_assign ha0 rfl) ?_
  clear ha0 a0; intro a1 ha1
  refine wpList_nil ?_
  refine hK0 _ _ ?_; clear hK0; try clear K0
  refine wp_seq_k (fun K1 hK1 => ?_)
  refine wp_seq_k (fun K2 hK2 => ?_)
  refine wp_region_lit ?_
  refine st_y ha1 rfl (y_move ha1 rfl) ?_
  clear ha1 a1; intro a2 ha2
  refine st_y ha2 rfl (y_move ha2 rfl) ?_
  clear ha2 a2; intro a3 ha3
  refine st_y ha3 rfl (y_nilCheck ha3 rfl) ?_
  clear ha3 a3; intro a4 ha4
  refine st_y ha4 rfl (y_fieldAddr ha4 (off := 0) rfl Try.underlying56 rfl (s := 4) (by kernel_rfl) rfl) ?_
  clear ha4 a4; intro a5 ha5
  refine st_y ha5 rfl (y_fieldAddr ha5 (off := 0) rfl Try.underlying54 rfl (s := 3) (by kernel_rfl) rfl) ?_
  clear ha5 a5; intro a6 ha6
  refine st_y ha6 rfl (y_fieldAddr ha6 (off := 0) rfl Try.underlying28 rfl (s := 0) (by kernel_rfl) rfl) ?_
  clear ha6 a6; intro a7 ha7
  refine st_y ha7 rfl (y_loadX1 ha7 (hB.now m0 rfl) rfl rfl Try.underlying3 rfl) ?_
  clear ha7 a7; intro a8 ha8
  refine st_y ha8 rfl (y_eql ha8 rfl rfl) ?_
  clear ha8 a8; intro a9 ha9
  refine wpList_nil ?_
  refine hK2 _ _ ?_; clear hK2; try clear K2
  refine bool_cases ha9 (t := 14) rfl (fun hb10 ha10 => ?_) (fun hb10 ha10 => ?_)
  · exact absurd hb10 (by simp; omega)
  clear ha9 hb10
  refine wp_cond_false (ha10.ev (x := .tmp 14) rfl) ?_
  refine wp_skip ?_
  refine hK1 _ _ ?_; clear hK1; try clear K1
  refine wp_seq_k (fun K3 hK3 => ?_)
  refine wp_seq_k (fun K4 hK4 => ?_)
  have ha11 : Has 39 [(0, _), (1, _), (4, _)] a9 := ha10.only [0, 1, 4]; clear ha10
  refine wp_region_lit ?_
  refine st_y ha11 rfl (y_move ha11 rfl) ?_
  clear ha11 a9; intro a12 ha12
  refine st_y ha12 rfl (y_nilCheck ha12 rfl) ?_
  clear ha12 a12; intro a13 ha13
  refine st_y ha13 rfl (y_fieldAddr ha13 (off := 0) rfl Try.underlying56 rfl (s := 4) (by kernel_rfl) rfl) ?_
  clear ha13 a13; intro a14 ha14
  refine st_y ha14 rfl (y_move ha14 rfl) ?_
  clear ha14 a14; intro a15 ha15
  refine wpList_plain rfl (fun K hK => ?_)
  refine e_call ha15 Try.func40 rfl rfl rfl rfl (place_yes _ _ _ _ _ _ _ _ _ k _ (hB.now m0 rfl) (by omega) (by first | omega | (simp; omega) | simp) (by simp; omega) (by omega)) ?_
  rintro e w16 ⟨rfl, hb16⟩
  have m17 := m0.later hb16
  clear m0
  clear hb16
  refine ⟨_, rfl, fun a18 ha18 => ?_⟩; clear ha15 a15
  refine hK _ _ ?_; clear hK K
  refine st_y ha18 rfl (y_move ha18 rfl) ?_
  clear ha18 a18; intro a19 ha19
  refine st_y ha19 rfl (y_extract ha19 rfl rfl) ?_
  clear ha19 a19; intro a20 ha20
  refine st_y ha20 rfl (y_extract ha20 rfl rfl) ?_
  clear ha20 a20; intro a21 ha21
  refine st_y ha21 rfl (y_assign ha21 rfl) ?_
  clear ha21 a21; intro a22 ha22
  refine st_y ha22 rfl (y_assign ha22 rfl) ?_
  clear ha22 a22; intro a23 ha23
  refine wpList_nil ?_
  refine hK4 _ _ ?_; clear hK4; try clear K4
  refine wp_seq_k (fun K5 hK5 => ?_)
  have ha24 : Has 39 [(0, _), (4, _), (5, _), (6, _)] a23 := ha23.only [0, 4, 5, 6]; clear ha23
  refine wp_region_lit ?_
  refine st_y ha24 rfl (y_move ha24 rfl) ?_
  clear ha24 a23; intro a25 ha25
  refine wpList_nil ?_
  refine hK5 _ _ ?_; clear hK5; try clear K5
  refine wp_cond_true (ha25.ev (x := .tmp 29) rfl) ?_
  refine wp_seq_k (fun K6 hK6 => ?_)
  refine wp_region_lit ?_
  refine st_y ha25 rfl (y_move ha25 rfl) ?_
  clear ha25 a25; intro a26 ha26
  refine st_y ha26 rfl (y_nilCheck ha26 rfl) ?_
  clear ha26 a26; intro a27 ha27
  refine st_y ha27 rfl (y_fieldAddr ha27 (off := 0) rfl Try.underlying56 rfl (s := 4) (by kernel_rfl) rfl) ?_
  clear ha27 a27; intro a28 ha28
  refine st_y ha28 rfl (y_fieldAddr ha28 (off := 4) rfl Try.underlying54 rfl (s := 0) (by kernel_rfl) rfl) ?_
  clear ha28 a28; intro a29 ha29
  refine st_y ha29 rfl (y_loadX1 ha29 (hB.now m17 rfl) rfl rfl Try.underlying29 rfl) ?_
  clear ha29 a29; intro a30 ha30
  refine st_y ha30 rfl (y_move ha30 rfl) ?_
  clear ha30 a30; intro a31 ha31
  obtain ⟨gx32, ox32, vx32, hp32, hl32, hR32, hrg32⟩ := hl.extA (k) (r := [.v (.int .i64 ei), .v (.int .i64 et), .v (.int .i64 ek), .ns .u8 ed]) (ent_get hes)
  cases hp32; clear hl32
  rcases hR32 with _ | ⟨hd32_0, _ | ⟨hd32_1, _ | ⟨hd32_2, _ | ⟨hd32_3, _ | _⟩⟩⟩⟩
  obtain rfl := hd32_0.v_out
  clear hd32_0
  obtain rfl := hd32_1.v_out
  clear hd32_1
  obtain rfl := hd32_2.v_out
  clear hd32_2
  obtain ⟨p33, c33, hv33, hw33⟩ := hd32_3.ns_shape; subst hv33
  refine st_y ha31 rfl (y_idx ha31 rfl rfl Try.underlying29 sz32te (k) rfl (by rw [List.length_map]; exact hk)) ?_
  clear ha31 a31; intro a34 ha34
  refine st_y ha34 rfl (y_fieldAddrQ ha34 1 rfl Try.underlying32 rfl (s := 0) (by kernel_rfl) rfl) ?_
  clear ha34 a34; intro a35 ha35
  refine st_y ha35 rfl (y_loadAt1 ha35 (hrg32 m17 rfl) (q := 1) rfl rfl rfl Try.underlying3 rfl) ?_
  clear ha35 a35; intro a36 ha36
  refine st_y ha36 rfl (y_assign ha36 rfl) ?_
  clear ha36 a36; intro a37 ha37
  refine wpList_nil ?_
  refine hK6 _ _ ?_; clear hK6; try clear K6
  refine wp_ret ?_
  try dsimp only [Exit.then, Exit.inBlock]
  refine (ret1 (fn := Try.f26) ha37 rfl rfl ?_)
  exact ⟨rfl, m17.below⟩
theorem term_out (B : Nat) (bi bt : Int) (cf d : List Int) (es : List (Int × Int × Int × List Int)) (pc pd pl : Option Addr) (cc cd cl : Nat) (w0 : World) (i : Int) (hB : Blk w0 B 56 [.int .i64 bi, .int .i64 bt, .slice pc cf.length cc, .slice pd d.length cd, .slice pl (es.map entD).length cl]) (hl : Rd (fun _ => True) w0 (.slice pl (es.map entD).length cl) (.l 4 (es.map entD))) (hbi : -1000000000000000000 ≤ bi ∧ bi ≤ 1000000000000000000) (hn : es.length ≤ 1000000) (hi : i < bi ∨ bi + es.length < i) :
    Calls Try.prog 26 #[.pointer (some ⟨B, 0, none⟩), .int .i64 i] w0 fun e w' => e = .returned (.int .i64 (-1)) ∧ Below w0.heap.size w0 w' := by
  refine enter (fn := Try.f26) Try.func26 rfl Try.ntmps26 rfl (fun a0 ha0 => ?_)
  simp only [List.zipIdx_cons, List.zipIdx_nil, List.map_cons, List.map_nil, Nat.reduceAdd, Nat.zero_add] at ha0
  have m0 := MemOk.start (fun _ => False) w0
  refine wp_seq_k (fun K0 hK0 => ?_)
  refine wp_region_lit ?_
  refine st_y ha0 rfl (y_assign ha0 rfl) ?_
  clear ha0 a0; intro a1 ha1
  refine wpList_nil ?_
  refine hK0 _ _ ?_; clear hK0; try clear K0
  refine wp_seq_k (fun K1 hK1 => ?_)
  refine wp_seq_k (fun K2 hK2 => ?_)
  refine wp_region_lit ?_
  refine st_y ha1 rfl (y_move ha1 rfl) ?_
  clear ha1 a1; intro a2 ha2
  refine st_y ha2 rfl (y_move ha2 rfl) ?_
  clear ha2 a2; intro a3 ha3
  refine st_y ha3 rfl (y_nilCheck ha3 rfl) ?_
  clear ha3 a3; intro a4 ha4
  refine st_y ha4 rfl (y_fieldAddr ha4 (off := 0) rfl Try.underlying56 rfl (s := 4) (by kernel_rfl) rfl) ?_
  clear ha4 a4; intro a5 ha5
  refine st_y ha5 rfl (y_fieldAddr ha5 (off := 0) rfl Try.underlying54 rfl (s := 3) (by kernel_rfl) rfl) ?_
  clear ha5 a5; intro a6 ha6
  refine st_y ha6 rfl (y_fieldAddr ha6 (off := 0) rfl Try.underlying28 rfl (s := 0) (by kernel_rfl) rfl) ?_
  clear ha6 a6; intro a7 ha7
  refine st_y ha7 rfl (y_loadX1 ha7 (hB.now m0 rfl) rfl rfl Try.underlying3 rfl) ?_
  clear ha7 a7; intro a8 ha8
  refine st_y ha8 rfl (y_eql ha8 rfl rfl) ?_
  clear ha8 a8; intro a9 ha9
  refine wpList_nil ?_
  refine hK2 _ _ ?_; clear hK2; try clear K2
  refine bool_cases ha9 (t := 14) rfl (fun hb10 ha10 => ?_) (fun hb10 ha10 => ?_)
  · exact absurd hb10 (by simp; omega)
  clear ha9 hb10
  refine wp_cond_false (ha10.ev (x := .tmp 14) rfl) ?_
  refine wp_skip ?_
  refine hK1 _ _ ?_; clear hK1; try clear K1
  refine wp_seq_k (fun K3 hK3 => ?_)
  refine wp_seq_k (fun K4 hK4 => ?_)
  have ha11 : Has 39 [(0, _), (1, _), (4, _)] a9 := ha10.only [0, 1, 4]; clear ha10
  refine wp_region_lit ?_
  refine st_y ha11 rfl (y_move ha11 rfl) ?_
  clear ha11 a9; intro a12 ha12
  refine st_y ha12 rfl (y_nilCheck ha12 rfl) ?_
  clear ha12 a12; intro a13 ha13
  refine st_y ha13 rfl (y_fieldAddr ha13 (off := 0) rfl Try.underlying56 rfl (s := 4) (by kernel_rfl) rfl) ?_
  clear ha13 a13; intro a14 ha14
  refine st_y ha14 rfl (y_move ha14 rfl) ?_
  clear ha14 a14; intro a15 ha15
  refine wpList_plain rfl (fun K hK => ?_)
  refine e_call ha15 Try.func40 rfl rfl rfl rfl (place_no _ _ _ _ _ _ _ _ _ _ (hB.now m0 rfl) (by omega) (by first | omega | (simp; omega) | simp) (by simp; omega)) ?_
  rintro e w16 ⟨rfl, hb16⟩
  have m17 := m0.later hb16
  clear m0
  clear hb16
  refine ⟨_, rfl, fun a18 ha18 => ?_⟩; clear ha15 a15
  refine hK _ _ ?_; clear hK K
  refine st_y ha18 rfl (y_move ha18 rfl) ?_
  clear ha18 a18; intro a19 ha19
  refine st_y ha19 rfl (y_extract ha19 rfl rfl) ?_
  clear ha19 a19; intro a20 ha20
  refine st_y ha20 rfl (y_extract ha20 rfl rfl) ?_
  clear ha20 a20; intro a21 ha21
  refine st_y ha21 rfl (y_assign ha21 rfl) ?_
  clear ha21 a21; intro a22 ha22
  refine st_y ha22 rfl (y_assign ha22 rfl) ?_
  clear ha22 a22; intro a23 ha23
  refine wpList_nil ?_
  refine hK4 _ _ ?_; clear hK4; try clear K4
  refine wp_seq_k (fun K5 hK5 => ?_)
  have ha24 : Has 39 [(0, _), (4, _), (5, _), (6, _)] a23 := ha23.only [0, 4, 5, 6]; clear ha23
  refine wp_region_lit ?_
  refine st_y ha24 rfl (y_move ha24 rfl) ?_
  clear ha24 a23; intro a25 ha25
  refine wpList_nil ?_
  refine hK5 _ _ ?_; clear hK5; try clear K5
  refine wp_cond_false (ha25.ev (x := .tmp 29) rfl) ?_
  refine wp_skip ?_
  refine hK3 _ _ ?_; clear hK3; try clear K3
  refine wp_seq_k (fun K6 hK6 => ?_)
  refine wp_region_lit ?_
  refine st_y ha25 rfl (y_assign ha25 rfl) ?_
  clear ha25 a25; intro a26 ha26
  refine wpList_nil ?_
  refine hK6 _ _ ?_; clear hK6; try clear K6
  refine wp_ret ?_
  try dsimp only [Exit.then, Exit.inBlock]
  refine (ret1 (fn := Try.f26) ha26 rfl rfl ?_)
  exact ⟨rfl, m17.below⟩
theorem from_some (B : Nat) (bi bt : Int) (cf d : List Int) (es : List (Int × Int × Int × List Int)) (pc pd pl : Option Addr) (cc cd cl : Nat) (w0 : World) (k j : Nat) (i q : Int) (hB : Blk w0 B 56 [.int .i64 bi, .int .i64 bt, .slice pc cf.length cc, .slice pd d.length cd, .slice pl (es.map entD).length cl]) (hl : Rd (fun _ => True) w0 (.slice pl (es.map entD).length cl) (.l 4 (es.map entD))) (hbi : -1000000000000000000 ≤ bi ∧ bi ≤ 1000000000000000000) (hn : es.length ≤ 1000000) (hok : EntsOk es) (hq : 0 < q) (hk0 : (i ≤ bi ∧ k = 0) ∨ i = bi + 1 + k) (hi : i ≤ bi + es.length) (hj : (j : Int) = min q (es.length - k)) :
    Calls Try.prog 30 #[.pointer (some ⟨B, 0, none⟩), .int .i64 i, .int .i64 q] w0 fun e w' => ∃ p c, e = .returned (.slice p (((es.drop k).take j).map entD).length c) ∧ Rd (New w0) w' (.slice p (((es.drop k).take j).map entD).length c) (.l 4 (((es.drop k).take j).map entD)) ∧ Below w0.heap.size w0 w' := by
  have hkn : k ≤ es.length := by omega
  have hjl : j ≤ es.length - k := by omega
  refine enter (fn := Try.f30) Try.func30 rfl Try.ntmps30 rfl (fun a0 ha0 => ?_)
  simp only [List.zipIdx_cons, List.zipIdx_nil, List.map_cons, List.map_nil, Nat.reduceAdd, Nat.zero_add] at ha0
  have m0 := MemOk.start (fun _ => False) w0
  have hcl : es.length ≤ cl := by obtain ⟨pq, cq, hv, hcap⟩ := hl.l_shape; injection hv with _ _ e3; rw [List.length_map] at hcap; omega
  refine wp_seq_k (fun K0 hK0 => ?_)
  refine wp_region_lit ?_
  refine st_y ha0 rfl (y_assign ha0 rfl) ?_
  clear ha0 a0; intro a1 ha1
  refine wpList_nil ?_
  refine hK0 _ _ ?_; clear hK0; try clear K0
  refine wp_seq_k (fun K1 hK1 => ?_)
  refine wp_seq_k (fun K2 hK2 => ?_)
  refine wp_region_lit ?_
  refine st_y ha1 rfl (y_move ha1 rfl) ?_
  clear ha1 a1; intro a2 ha2
  refine st_y ha2 rfl (y_leq ha2 rfl rfl) ?_
  clear ha2 a2; intro a3 ha3
  refine st_y ha3 rfl (y_move ha3 rfl) ?_
  clear ha3 a3; intro a4 ha4
  refine bool_cases ha4 (t := 12) rfl (fun hb5 ha5 => ?_) (fun hb5 ha5 => ?_)
  · exact absurd hb5 (by first | omega | (simp; omega))
  clear ha4 hb5
  refine st_g ha5 rfl rfl rfl rfl (y_move ha5 rfl) ?_
  clear ha5 a4; intro a6 ha6
  refine st_g ha6 rfl rfl rfl rfl (y_move ha6 rfl) ?_
  clear ha6 a6; intro a7 ha7
  refine st_g ha7 rfl rfl rfl rfl (y_nilCheck ha7 rfl) ?_
  clear ha7 a7; intro a8 ha8
  refine st_g ha8 rfl rfl rfl rfl (y_fieldAddr ha8 (off := 0) rfl Try.underlying56 rfl (s := 4) (by kernel_rfl) rfl) ?_
  clear ha8 a8; intro a9 ha9
  refine st_ge ha9 rfl rfl rfl rfl (fun K hK => ?_)
  refine e_call ha9 Try.func25 rfl rfl rfl rfl (last_any _ _ _ _ _ _ _ _ _ (hB.now m0 rfl) (by omega) (by first | omega | (simp; omega) | simp)) ?_
  rintro e w10 ⟨rfl, hb10⟩
  have m11 := m0.later hb10
  clear m0
  clear hb10
  refine ⟨_, rfl, fun a12 ha12 => ?_⟩; clear ha9 a9
  refine hK _ _ ?_; clear hK K
  refine st_g ha12 rfl rfl rfl rfl (y_gtr ha12 rfl rfl) ?_
  clear ha12 a12; intro a13 ha13
  refine st_y ha13 rfl (y_pickF ha13 rfl rfl) ?_
  clear ha13 a13; intro a14 ha14
  refine wpList_nil ?_
  refine hK2 _ _ ?_; clear hK2; try clear K2
  refine bool_cases ha14 (t := 19) rfl (fun hb15 ha15 => ?_) (fun hb15 ha15 => ?_)
  · exact absurd hb15 (by simp; omega)
  clear ha14 hb15
  refine wp_cond_false (ha15.ev (x := .tmp 19) rfl) ?_
  refine wp_skip ?_
  refine hK1 _ _ ?_; clear hK1; try clear K1
  refine wp_seq_k (fun K3 hK3 => ?_)
  have ha16 : Has 42 [(0, _), (1, _), (2, _), (6, _)] a14 := ha15.only [0, 1, 2, 6]; clear ha15
  refine wp_region_lit ?_
  refine st_y ha16 rfl (y_move ha16 rfl) ?_
  clear ha16 a14; intro a17 ha17
  refine st_y ha17 rfl (y_nilCheck ha17 rfl) ?_
  clear ha17 a17; intro a18 ha18
  refine st_y ha18 rfl (y_fieldAddr ha18 (off := 0) rfl Try.underlying56 rfl (s := 4) (by kernel_rfl) rfl) ?_
  clear ha18 a18; intro a19 ha19
  refine st_y ha19 rfl (y_move ha19 rfl) ?_
  clear ha19 a19; intro a20 ha20
  refine wpList_plain rfl (fun K hK => ?_)
  refine e_call ha20 Try.func40 rfl rfl rfl rfl (place_from _ _ _ _ _ _ _ _ _ k _ (hB.now m11 rfl) (by omega) (by first | omega | (simp; omega) | simp) hk0 (by first | omega | (simp; omega) | simp)) ?_
  rintro e w22 ⟨b22, rfl, hb22⟩
  have m23 := m11.later hb22
  clear m11
  clear hb22
  refine ⟨_, rfl, fun a24 ha24 => ?_⟩; clear ha20 a20
  refine hK _ _ ?_; clear hK K
  refine st_y ha24 rfl (y_move ha24 rfl) ?_
  clear ha24 a24; intro a25 ha25
  refine st_y ha25 rfl (y_extract ha25 rfl rfl) ?_
  clear ha25 a25; intro a26 ha26
  refine st_y ha26 rfl (y_extract ha26 rfl rfl) ?_
  clear ha26 a26; intro a27 ha27
  refine st_y ha27 rfl (y_assign ha27 rfl) ?_
  clear ha27 a27; intro a28 ha28
  refine st_y ha28 rfl (y_assign ha28 rfl) ?_
  clear ha28 a28; intro a29 ha29
  refine wpList_nil ?_
  refine hK3 _ _ ?_; clear hK3; try clear K3
  refine wp_seq_k (fun K4 hK4 => ?_)
  have ha30 : Has 42 [(0, _), (2, _), (6, _), (7, _)] a29 := ha29.only [0, 2, 6, 7]; clear ha29
  refine wp_region_lit ?_
  refine st_y ha30 rfl (y_move ha30 rfl) ?_
  clear ha30 a29; intro a31 ha31
  refine st_y ha31 rfl (y_nilCheck ha31 rfl) ?_
  clear ha31 a31; intro a32 ha32
  refine st_y ha32 rfl (y_fieldAddr ha32 (off := 0) rfl Try.underlying56 rfl (s := 4) (by kernel_rfl) rfl) ?_
  clear ha32 a32; intro a33 ha33
  refine st_y ha33 rfl (y_fieldAddr ha33 (off := 4) rfl Try.underlying54 rfl (s := 0) (by kernel_rfl) rfl) ?_
  clear ha33 a33; intro a34 ha34
  refine st_y ha34 rfl (y_loadX1 ha34 (hB.now m23 rfl) rfl rfl Try.underlying29 rfl) ?_
  clear ha34 a34; intro a35 ha35
  refine st_y ha35 rfl (y_move ha35 rfl) ?_
  clear ha35 a35; intro a36 ha36
  have hx37 := hl.dropL k (by first | omega | (simp; omega) | simp)
  refine st_y ha36 rfl (y_sliceLn ha36 k rfl rfl Try.underlying29 sz32fr rfl (by first | omega | (simp; omega) | simp)) ?_
  clear ha36 a36; intro a38 ha38
  refine st_y ha38 rfl (y_assign ha38 rfl) ?_
  clear ha38 a38; intro a39 ha39
  refine wpList_nil ?_
  refine hK4 _ _ ?_; clear hK4; try clear K4
  refine wp_seq_k (fun K5 hK5 => ?_)
  have ha40 : Has 42 [(2, _), (6, _), (9, _)] a39 := ha39.only [2, 6, 9]; clear ha39
  refine wp_region_lit ?_
  refine st_y ha40 rfl (y_move ha40 rfl) ?_
  clear ha40 a39; intro a41 ha41
  refine st_y ha41 rfl (y_move ha41 rfl) ?_
  clear ha41 a41; intro a42 ha42
  refine st_y ha42 rfl (y_move ha42 rfl) ?_
  clear ha42 a42; intro a43 ha43
  refine st_y ha43 rfl (y_len ha43 rfl Try.underlying29) ?_
  clear ha43 a43; intro a44 ha44
  refine st_y ha44 rfl (y_min ha44 rfl rfl (r := (j : Int)) (by simp; omega)) ?_
  clear ha44 a44; intro a45 ha45
  have hx46 := hx37.takeL j (by first | omega | (simp; omega) | simp)
  refine st_y ha45 rfl (y_sliceHn ha45 j rfl rfl Try.underlying29 sz32fr rfl (by omega)) ?_
  clear ha45 a45; intro a47 ha47
  have hy48 := ((hx46.now' m23 rfl).any)
  rw [← List.map_drop, ← List.map_take] at hy48
  refine wpList_plain rfl (fun K hK => ?_)
  refine e_call ha47 Try.func37 rfl rfl rfl rfl (list_any ((es.drop k).take j) _ _ _ _ hy48 (by first | omega | (simp; omega) | simp) (fun e he => hok e (List.mem_of_mem_drop (List.mem_of_mem_take he)))) ?_
  rintro e w49 ⟨p49, c49, rfl, hd49, hb49⟩
  have m50 := m23.callF 7 rfl hb49 hd49
  clear m23
  clear hb49 hd49
  refine ⟨_, rfl, fun a51 ha51 => ?_⟩; clear ha47 a47
  refine hK _ _ ?_; clear hK K
  refine st_y ha51 rfl (y_assign ha51 rfl) ?_
  clear ha51 a51; intro a52 ha52
  refine wpList_nil ?_
  refine hK5 _ _ ?_; clear hK5; try clear K5
  refine wp_ret ?_
  try dsimp only [Exit.then, Exit.inBlock]
  refine (ret1 (fn := Try.f30) ha52 rfl rfl ?_)
  exact ⟨_, _, rfl, m50.outF (i := 7) rfl, m50.below⟩
theorem from_none (B : Nat) (bi bt : Int) (cf d : List Int) (es : List (Int × Int × Int × List Int)) (pc pd pl : Option Addr) (cc cd cl : Nat) (w0 : World) (i q : Int) (hB : Blk w0 B 56 [.int .i64 bi, .int .i64 bt, .slice pc cf.length cc, .slice pd d.length cd, .slice pl (es.map entD).length cl]) (hl : Rd (fun _ => True) w0 (.slice pl (es.map entD).length cl) (.l 4 (es.map entD))) (hbi : -1000000000000000000 ≤ bi ∧ bi ≤ 1000000000000000000) (hn : es.length ≤ 1000000) (hi : q ≤ 0 ∨ bi + es.length < i) :
    Calls Try.prog 30 #[.pointer (some ⟨B, 0, none⟩), .int .i64 i, .int .i64 q] w0 fun e w' => e = .returned (.slice none 0 0) ∧ Below w0.heap.size w0 w' := by
  refine enter (fn := Try.f30) Try.func30 rfl Try.ntmps30 rfl (fun a0 ha0 => ?_)
  simp only [List.zipIdx_cons, List.zipIdx_nil, List.map_cons, List.map_nil, Nat.reduceAdd, Nat.zero_add] at ha0
  have m0 := MemOk.start (fun _ => False) w0
  refine wp_seq_k (fun K0 hK0 => ?_)
  refine wp_region_lit ?_
  refine st_y ha0 rfl (y_assign ha0 rfl) ?_
  clear ha0 a0; intro a1 ha1
  refine wpList_nil ?_
  refine hK0 _ _ ?_; clear hK0; try clear K0
  refine wp_seq_k (fun K1 hK1 => ?_)
  refine wp_seq_k (fun K2 hK2 => ?_)
  refine wp_region_lit ?_
  refine st_y ha1 rfl (y_move ha1 rfl) ?_
  clear ha1 a1; intro a2 ha2
  refine st_y ha2 rfl (y_leq ha2 rfl rfl) ?_
  clear ha2 a2; intro a3 ha3
  refine st_y ha3 rfl (y_move ha3 rfl) ?_
  clear ha3 a3; intro a4 ha4
  refine bool_cases ha4 (t := 12) rfl (fun hb5 ha5 => ?_) (fun hb5 ha5 => ?_)
  · skip
    clear ha4
    try simp only [decide_eq_true_eq, decide_eq_false_iff_not, Bool.not_eq_true, Bool.not_eq_false, Bool.not_eq_eq_eq_not, Bool.not_true, Bool.not_false, Bool.not_not, Int.not_lt, Int.not_le, ne_eq, Decidable.not_not] at hb5
    refine st_skip ha5 rfl rfl rfl rfl ?_
    clear ha5 a4; intro a6 ha6
    refine st_skip ha6 rfl rfl rfl rfl ?_
    clear ha6 a6; intro a7 ha7
    refine st_skip ha7 rfl rfl rfl rfl ?_
    clear ha7 a7; intro a8 ha8
    refine st_skip ha8 rfl rfl rfl rfl ?_
    clear ha8 a8; intro a9 ha9
    refine st_skip ha9 rfl rfl rfl rfl ?_
    clear ha9 a9; intro a10 ha10
    refine st_skip ha10 rfl rfl rfl rfl ?_
    clear ha10 a10; intro a11 ha11
    refine st_y ha11 rfl (y_pickT ha11 rfl rfl) ?_
    clear ha11 a11; intro a12 ha12
    refine wpList_nil ?_
    refine hK2 _ _ ?_; clear hK2; try clear K2
    refine wp_cond_true (ha12.ev (x := .tmp 19) rfl) ?_
    refine wp_seq_k (fun K3 hK3 => ?_)
    have ha13 : Has 42 [(0, _), (1, _), (2, _), (6, _)] a12 := ha12.only [0, 1, 2, 6]; clear ha12
    refine wp_region_lit ?_
    refine st_y ha13 rfl (y_assign ha13 rfl) ?_
    clear ha13 a12; intro a14 ha14
    refine wpList_nil ?_
    refine hK3 _ _ ?_; clear hK3; try clear K3
    refine wp_ret ?_
    try dsimp only [Exit.then, Exit.inBlock]
    refine (ret1 (fn := Try.f30) ha14 rfl rfl ?_)
    exact ⟨rfl, m0.below⟩
  · skip
    clear ha4
    try simp only [decide_eq_true_eq, decide_eq_false_iff_not, Bool.not_eq_true, Bool.not_eq_false, Bool.not_eq_eq_eq_not, Bool.not_true, Bool.not_false, Bool.not_not, Int.not_lt, Int.not_le, ne_eq, Decidable.not_not] at hb5
    refine st_g ha5 rfl rfl rfl rfl (y_move ha5 rfl) ?_
    clear ha5 a4; intro a15 ha15
    refine st_g ha15 rfl rfl rfl rfl (y_move ha15 rfl) ?_
    clear ha15 a15; intro a16 ha16
    refine st_g ha16 rfl rfl rfl rfl (y_nilCheck ha16 rfl) ?_
    clear ha16 a16; intro a17 ha17
    refine st_g ha17 rfl rfl rfl rfl (y_fieldAddr ha17 (off := 0) rfl Try.underlying56 rfl (s := 4) (by kernel_rfl) rfl) ?_
    clear ha17 a17; intro a18 ha18
    refine st_ge ha18 rfl rfl rfl rfl (fun K hK => ?_)
    refine e_call ha18 Try.func25 rfl rfl rfl rfl (last_any _ _ _ _ _ _ _ _ _ (hB.now m0 rfl) (by omega) (by first | omega | (simp; omega) | simp)) ?_
    rintro e w19 ⟨rfl, hb19⟩
    have m20 := m0.later hb19
    clear m0
    clear hb19
    refine ⟨_, rfl, fun a21 ha21 => ?_⟩; clear ha18 a18
    refine hK _ _ ?_; clear hK K
    refine st_g ha21 rfl rfl rfl rfl (y_gtr ha21 rfl rfl) ?_
    clear ha21 a21; intro a22 ha22
    refine st_y ha22 rfl (y_pickF ha22 rfl rfl) ?_
    clear ha22 a22; intro a23 ha23
    refine wpList_nil ?_
    refine hK2 _ _ ?_; clear hK2; try clear K2
    refine bool_cases ha23 (t := 19) rfl (fun hb24 ha24 => ?_) (fun hb24 ha24 => ?_)
    rotate_left
    · exact absurd hb24 (by simp at *; omega)
    clear ha23 hb24
    refine wp_cond_true (ha24.ev (x := .tmp 19) rfl) ?_
    refine wp_seq_k (fun K4 hK4 => ?_)
    have ha25 : Has 42 [(0, _), (1, _), (2, _), (6, _)] a23 := ha24.only [0, 1, 2, 6]; clear ha24
    refine wp_region_lit ?_
    refine st_y ha25 rfl (y_assign ha25 rfl) ?_
    clear ha25 a23; intro a26 ha26
    refine wpList_nil ?_
    refine hK4 _ _ ?_; clear hK4; try clear K4
    refine wp_ret ?_
    try dsimp only [Exit.then, Exit.inBlock]
    refine (ret1 (fn := Try.f30) ha26 rfl rfl ?_)
    exact ⟨rfl, m20.below⟩
theorem lbase_any (B : Nat) (bi bt : Int) (cf d : List Int) (es : List (Int × Int × Int × List Int)) (pc pd pl : Option Addr) (cc cd cl : Nat) (w0 : World) (hB : Blk w0 B 56 [.int .i64 bi, .int .i64 bt, .slice pc cf.length cc, .slice pd d.length cd, .slice pl (es.map entD).length cl]) (hl : Rd (fun _ => True) w0 (.slice pl (es.map entD).length cl) (.l 4 (es.map entD))) (hbi : -1000000000000000000 ≤ bi ∧ bi ≤ 1000000000000000000) (hn : es.length ≤ 1000000) (hc : Rd (fun _ => True) w0 (.slice pc cf.length cc) (.ns .i64 cf)) (hd : Rd (fun _ => True) w0 (.slice pd d.length cd) (.ns .u8 d)) (hcf : cf.length ≤ 1000000) (hdl : d.length ≤ 140737488351232) :
    Calls Try.prog 27 #[.pointer (some ⟨B, 0, none⟩)] w0 fun e w' => ∃ p c q b, e = .returned (.agg #[.int .i64 bi, .int .i64 bt, .slice p cf.length c, .slice q d.length b]) ∧ Rd (New w0) w' (.slice p cf.length c) (.ns .i64 cf) ∧ Rd (New w0) w' (.slice q d.length b) (.ns .u8 d) ∧ Below w0.heap.size w0 w' := by
  refine enter (fn := Try.f27) Try.func27 rfl Try.ntmps27 rfl (fun a0 ha0 => ?_)
  simp only [List.zipIdx_cons, List.zipIdx_nil, List.map_cons, List.map_nil, Nat.reduceAdd, Nat.zero_add] at ha0
  have m0 := MemOk.start (fun _ => False) w0
  refine wp_seq_k (fun K0 hK0 => ?_)
  refine wp_region_lit ?_
  refine wpList_plain rfl (fun K hK => ?_)
  refine e_alloc ha0 m0 5 zc28lb rfl ?_
  clear ha0 a0 m0; intro g1 a2 w2 ha2 m2 hB2 hg2
  clear hB2 hg2
  refine hK _ _ ?_; clear hK K
  refine wpList_nil ?_
  refine hK0 _ _ ?_; clear hK0; try clear K0
  refine wp_seq_k (fun K1 hK1 => ?_)
  refine wp_region_lit ?_
  refine st_y ha2 rfl (y_move ha2 rfl) ?_
  clear ha2 a2; intro a3 ha3
  refine st_y ha3 rfl (y_nilCheck ha3 rfl) ?_
  clear ha3 a3; intro a4 ha4
  refine st_y ha4 rfl (y_fieldAddr ha4 (off := 0) rfl Try.underlying56 rfl (s := 4) (by kernel_rfl) rfl) ?_
  clear ha4 a4; intro a5 ha5
  refine st_y ha5 rfl (y_fieldAddr ha5 (off := 0) rfl Try.underlying54 rfl (s := 3) (by kernel_rfl) rfl) ?_
  clear ha5 a5; intro a6 ha6
  refine st_y ha6 rfl (y_loadXR ha6 (hB.now m2 rfl) rfl Try.underlying28 rfl sz28lb rfl rfl) ?_
  clear ha6 a6; intro a7 ha7
  refine wpList_plain rfl (fun K hK => ?_)
  refine e_call ha7 Try.func42 rfl rfl rfl rfl (base_any _ _ cf d _ _ _ _ _ ((hc.now' m2 rfl).any) ((hd.now' m2 rfl).any) hcf hdl) ?_
  rintro e w8 ⟨p8, c8, q8, b8, rfl, hc8, hd8, hb8⟩
  have m9 := m2.callFF 6 7 rfl rfl hb8 hc8 hd8
  clear m2
  clear hb8 hc8 hd8
  refine ⟨_, rfl, fun a10 ha10 => ?_⟩; clear ha7 a7
  refine hK _ _ ?_; clear hK K
  refine wpList_plain rfl (fun K hK => ?_)
  refine e_storeW ha10 m9 5 rfl rfl rfl rfl rfl sz28lb ?_
  clear m9; intro w11 m11 hB11
  clear hB11
  refine hK _ _ ?_; clear hK K
  refine wpList_nil ?_
  refine hK1 _ _ ?_; clear hK1; try clear K1
  refine wp_ret ?_
  try dsimp only [Exit.then, Exit.inBlock]
  refine (retC (fn := Try.f27) ha10 m11 (i := 5) rfl rfl rfl Try.underlying28 rfl sz28lb ?_)
  exact ⟨_, _, _, _, rfl, m11.outF (i := 6) rfl, m11.outF (i := 7) rfl, m11.below⟩
end Go.Proofs.Ytmdckdhogbbhlaa.K
