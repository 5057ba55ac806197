/- The reference's members. -/
import Derived.Test.YtmdckdhogbbhlaaLog11
import Derived.Test.YtmdckdhogbbhlaaLRConf
namespace Go.Proofs.Ytmdckdhogbbhlaa.K
open Go.ChangeShapes Go.WideShapes Go.ChangeAt Go.RowKit
set_option linter.unusedVariables false
set_option linter.unusedSimpArgs false

theorem inf3rw : (Try.prog.info? 3).map (fun i => (i.zero, i.size, i.bytes)) = some (some (.int .i64 0), 1, 8) := by kernel_rfl
theorem inf3rwo : (Try.prog.info? 3).map (fun i => (i.zero, i.size, i.bytes)) = some (some (.int .i64 0), 1, 8) := by kernel_rfl
theorem sz3rwo : (Try.prog.info? 3).map (·.size) = some 1 := by kernel_rfl
theorem sz5rc : (Try.prog.info? 5).map (·.size) = some 1 := by kernel_rfl
theorem inf3rcf : (Try.prog.info? 3).map (fun i => (i.zero, i.size, i.bytes)) = some (some (.int .i64 0), 1, 8) := by kernel_rfl
theorem sz32rcf : (Try.prog.info? 32).map (·.size) = some 4 := by kernel_rfl

theorem chg_with {ms ed : List Int} (h : ed.getD 1 0 = 1) : canon (ms ++ [ed.getD 0 0]) = chgL ms ed := by
  unfold chgL; rw [if_pos h, ofL_canon, ofL_canon, canon_with]
theorem chg_out {ms ed : List Int} (h : ¬ ed.getD 1 0 = 1) : canon (ms.filter fun x => decide (x ≠ ed.getD 0 0)) = chgL ms ed := by
  unfold chgL; rw [if_neg h, ofL_canon, canon_out]
/-- An entry that changes members is right. -/
def EntsR (es : List (Int × Int × Int × List Int)) : Prop := ∀ e ∈ es, e.2.2.1 = 2 → entOk e.1 e.2.1 e.2.2.1 e.2.2.2 = true
set_option maxRecDepth 100000
set_option maxHeartbeats 4000000
theorem rwith_any (ms : List Int) (n : Int) (p0 : Option Addr) (c0 : Nat) (w0 : World) (h0 : Rd (fun _ => True) w0 (.slice p0 ms.length c0) (.ns .i64 ms)) (hm : ms.length ≤ 900) :
    Calls Try.prog 53 #[.slice p0 ms.length c0, .int .i64 n] w0 fun e w' => ∃ p c, e = .returned (.slice p (canon (ms ++ [n])).length c) ∧ Rd (New w0) w' (.slice p (canon (ms ++ [n])).length c) (.ns .i64 (canon (ms ++ [n]))) ∧ Below w0.heap.size w0 w' := by
  refine enter (fn := Try.f53) Try.func53 rfl Try.ntmps53 rfl (fun a0 ha0 => ?_)
  simp only [List.zipIdx_cons, List.zipIdx_nil, List.map_cons, List.map_nil, Nat.reduceAdd, Nat.zero_add] at ha0
  have m0 := MemOk.start (fun _ => False) w0
  refine wp_seq_k (fun K0 hK0 => ?_)
  refine wp_region_lit ?_
  refine st_y ha0 rfl (y_assign ha0 rfl) ?_
  clear ha0 a0; intro a1 ha1
  refine wpList_nil ?_
  refine hK0 _ _ ?_; clear hK0; try clear K0
  refine wp_seq_k (fun K1 hK1 => ?_)
  refine wp_region_lit ?_
  refine st_y ha1 rfl (y_move ha1 rfl) ?_
  clear ha1 a1; intro a2 ha2
  refine wpList_plain rfl (fun K hK => ?_)
  refine e_app0N ha2 m0 3 rfl rfl (h0.now' m0 rfl).ns_out.nums Try.underlying26 inf3rw (by decide) (by omega) rfl ?_
  clear ha2 a2 m0; intro p3 c3 a4 w4 ha4 m4 
  refine hK _ _ ?_; clear hK K
  refine st_y ha4 rfl (y_move ha4 rfl) ?_
  clear ha4 a4; intro a5 ha5
  refine wpList_plain rfl (fun K hK => ?_)
  refine e_litN ha5 m4 4 (k := .i64) rfl rfl Try.underlying26 inf3rw rfl rfl rfl rfl ?_
  clear ha5 a5 m4; intro g6 a7 w7 ha7 m7 
  refine hK _ _ ?_; clear hK K
  refine wpList_plain rfl (fun K hK => ?_)
  refine e_appN ha7 m7 3 rfl rfl rfl (m7.numsO (i := 4) rfl) Try.underlying26 inf3rw (by decide) (by simp; omega) rfl ?_
  clear ha7 a7 m7; intro p8 c8 a9 w9 ha9 m9 
  refine hK _ _ ?_; clear hK K
  refine wpList_plain rfl (fun K hK => ?_)
  refine e_call ha9 Try.func56 rfl rfl rfl rfl (rof_any _ (ms ++ [n]) _ (m9.numsO (i := 3) rfl) (by simp; omega)) ?_
  rintro e w10 ⟨u10, rfl, ho10, hb10⟩
  obtain ⟨p10, c10, hu10⟩ := ownsRow_shape ho10
  subst hu10
  have m11 := m9.newN 5 hb10 ho10
  clear m9
  clear hb10 ho10
  refine ⟨_, rfl, fun a12 ha12 => ?_⟩; clear ha9 a9
  refine hK _ _ ?_; clear hK K
  refine st_y ha12 rfl (y_assign ha12 rfl) ?_
  clear ha12 a12; intro a13 ha13
  refine wpList_nil ?_
  refine hK1 _ _ ?_; clear hK1; try clear K1
  refine wp_ret ?_
  try dsimp only [Exit.then, Exit.inBlock]
  refine (ret1 (fn := Try.f53) ha13 rfl rfl ?_)
  have m14 := m11.freezeN 5 rfl; clear m11
  exact ⟨_, _, rfl, m14.outF (i := 5) rfl, m14.below⟩
theorem rwithout_any (ms : List Int) (n : Int) (p0 : Option Addr) (c0 : Nat) (w0 : World) (h0 : Rd (fun _ => True) w0 (.slice p0 ms.length c0) (.ns .i64 ms)) (hm : ms.length ≤ 900) :
    Calls Try.prog 54 #[.slice p0 ms.length c0, .int .i64 n] w0 fun e w' => ∃ p c, e = .returned (.slice p (canon (ms.filter fun x => decide (x ≠ n))).length c) ∧ Rd (New w0) w' (.slice p (canon (ms.filter fun x => decide (x ≠ n))).length c) (.ns .i64 (canon (ms.filter fun x => decide (x ≠ n)))) ∧ Below w0.heap.size w0 w' := by
  refine enter (fn := Try.f54) Try.func54 rfl Try.ntmps54 rfl (fun a0 ha0 => ?_)
  simp only [List.zipIdx_cons, List.zipIdx_nil, List.map_cons, List.map_nil, Nat.reduceAdd, Nat.zero_add] at ha0
  have m0 := MemOk.start (fun _ => False) w0
  refine wp_seq_k (fun K0 hK0 => ?_)
  refine wp_region_lit ?_
  refine st_y ha0 rfl (y_assign ha0 rfl) ?_
  clear ha0 a0; intro a1 ha1
  refine wpList_nil ?_
  refine hK0 _ _ ?_; clear hK0; try clear K0
  refine wp_seq_k (fun K1 hK1 => ?_)
  refine wp_region_lit ?_
  have m2 := m0.nilN 3 3 .i64
  clear m0
  refine st_y ha1 rfl (y_assign ha1 rfl) ?_
  clear ha1 a1; intro a3 ha3
  refine wpList_nil ?_
  refine hK1 _ _ ?_; clear hK1; try clear K1
  refine wp_seq_k (fun K2 hK2 => ?_)
  refine wp_seq_k (fun K3 hK3 => ?_)
  refine wp_region_lit ?_
  refine st_y ha3 rfl (y_assign ha3 rfl) ?_
  clear ha3 a3; intro a4 ha4
  refine wpList_nil ?_
  refine hK3 _ _ ?_; clear hK3; try clear K3
  refine wp_block ?_
  refine wp_loop_ghost (fun g a w => ∃ (k : Nat) (p : Option Addr) (c : Nat), k ≤ ms.length ∧ g = ms.length - k ∧ ((ms.take k).filter fun x => decide (x ≠ n)).length ≤ k ∧ Has 28 [(0, .slice p0 ms.length c0), (1, .int .i64 n), (5, .slice p ((ms.take k).filter fun x => decide (x ≠ n)).length c), (6, .int .i64 k)] a ∧ MemOk (cn w0) w0 [(5, .num (.slice p ((ms.take k).filter fun x => decide (x ≠ n)).length c) 3 .i64 ((ms.take k).filter fun x => decide (x ≠ n)))] w) (ms.length) ?_ ?_
  · exact ⟨0, _, _, Nat.zero_le _, rfl, Nat.le_refl _, ha4.only [0, 1, 5, 6], m2.ren [(5, 3)] (by decide)⟩
  · skip
    clear ha4 m2
    rintro g a5 w5 ⟨k, p, c, hkl, hg, hfl, ha5, m5⟩
    refine wp_seq_k (fun K4 hK4 => ?_)
    refine wp_seq_k (fun K5 hK5 => ?_)
    refine wp_region_lit ?_
    refine st_y ha5 rfl (y_move ha5 rfl) ?_
    clear ha5 a5; intro a6 ha6
    refine st_y ha6 rfl (y_move ha6 rfl) ?_
    clear ha6 a6; intro a7 ha7
    refine st_y ha7 rfl (y_len ha7 rfl Try.underlying26) ?_
    clear ha7 a7; intro a8 ha8
    refine st_y ha8 rfl (y_lss ha8 rfl rfl) ?_
    clear ha8 a8; intro a9 ha9
    refine wpList_nil ?_
    refine hK5 _ _ ?_; clear hK5; try clear K5
    refine bool_cases ha9 (t := 10) rfl (fun hb10 ha10 => ?_) (fun hb10 ha10 => ?_)
    · skip
      clear ha9
      try simp only [decide_eq_true_eq, decide_eq_false_iff_not, Bool.not_eq_true, Bool.not_eq_false, Bool.not_eq_eq_eq_not, Bool.not_true, Bool.not_false, Bool.not_not, Int.not_lt, Int.not_le, ne_eq, Decidable.not_not] at hb10
      have hk : k < ms.length := by omega
      refine wp_cond_true (ha10.ev (x := .tmp 10) rfl) ?_
      refine wp_skip ?_
      refine hK4 _ _ ?_; clear hK4; try clear K4
      refine wp_seq_k (fun K6 hK6 => ?_)
      refine wp_block ?_
      refine wp_seq_k (fun K7 hK7 => ?_)
      refine wp_region_lit ?_
      refine st_y ha10 rfl (y_move ha10 rfl) ?_
      clear ha10 a9; intro a11 ha11
      refine st_y ha11 rfl (y_move ha11 rfl) ?_
      clear ha11 a11; intro a12 ha12
      obtain ⟨gx13, ox13, hp13, hl13, hrg13⟩ := h0.extN (k) hk
      cases hp13; clear hl13
      refine st_y ha12 rfl (y_idx ha12 rfl rfl Try.underlying26 sz3rwo (k) rfl hk) ?_
      clear ha12 a12; intro a14 ha14
      refine st_y ha14 rfl (y_loadAt1 ha14 (hrg13 m5 rfl) (q := 0) rfl rfl rfl Try.underlying3 rfl) ?_
      clear ha14 a14; intro a15 ha15
      refine st_y ha15 rfl (y_move ha15 rfl) ?_
      clear ha15 a15; intro a16 ha16
      refine st_y ha16 rfl (y_neq ha16 rfl rfl) ?_
      clear ha16 a16; intro a17 ha17
      refine wpList_nil ?_
      refine hK7 _ _ ?_; clear hK7; try clear K7
      refine bool_cases ha17 (t := 18) rfl (fun hb18 ha18 => ?_) (fun hb18 ha18 => ?_)
      · skip
        clear ha17
        try simp only [decide_eq_true_eq, decide_eq_false_iff_not, Bool.not_eq_true, Bool.not_eq_false, Bool.not_eq_eq_eq_not, Bool.not_true, Bool.not_false, Bool.not_not, Int.not_lt, Int.not_le, ne_eq, Decidable.not_not] at hb18
        refine wp_cond_true (ha18.ev (x := .tmp 18) rfl) ?_
        have ha19 : Has 28 [(0, _), (1, _), (5, _), (6, _), (18, _)] a17 := ha18.only [0, 1, 5, 6, 18]; clear ha18
        refine wp_region_lit ?_
        refine st_y ha19 rfl (y_move ha19 rfl) ?_
        clear ha19 a17; intro a20 ha20
        refine st_y ha20 rfl (y_move ha20 rfl) ?_
        clear ha20 a20; intro a21 ha21
        refine st_y ha21 rfl (y_move ha21 rfl) ?_
        clear ha21 a21; intro a22 ha22
        obtain ⟨gx23, ox23, hp23, hl23, hrg23⟩ := h0.extN (k) hk
        cases hp23; clear hl23
        refine st_y ha22 rfl (y_idx ha22 rfl rfl Try.underlying26 sz3rwo (k) rfl hk) ?_
        clear ha22 a22; intro a24 ha24
        refine st_y ha24 rfl (y_loadAt1 ha24 (hrg23 m5 rfl) (q := 0) rfl rfl rfl Try.underlying3 rfl) ?_
        clear ha24 a24; intro a25 ha25
        refine wpList_plain rfl (fun K hK => ?_)
        refine e_litN ha25 m5 100 (k := .i64) rfl rfl Try.underlying26 inf3rwo rfl rfl rfl rfl ?_
        clear ha25 a25 m5; intro g26 a27 w27 ha27 m27 
        refine hK _ _ ?_; clear hK K
        refine wpList_plain rfl (fun K hK => ?_)
        refine e_appN ha27 m27 5 rfl rfl rfl (m27.numsO (i := 100) rfl) Try.underlying26 inf3rwo (by decide) (by show _ + 1 ≤ _; omega) rfl ?_
        clear ha27 a27 m27; intro p28 c28 a29 w29 ha29 m29 
        refine hK _ _ ?_; clear hK K
        refine st_y ha29 rfl (y_assign ha29 rfl) ?_
        clear ha29 a29; intro a30 ha30
        refine wpList_nil ?_
        refine hK6 _ _ ?_; clear hK6; try clear K6
        have ha31 : Has 28 [(0, _), (1, _), (5, _), (6, _), (18, _)] a30 := ha30.only [0, 1, 5, 6, 18]; clear ha30
        refine wp_region_lit ?_
        refine st_y ha31 rfl (y_move ha31 rfl) ?_
        clear ha31 a30; intro a32 ha32
        refine st_y ha32 rfl (y_add ha32 rfl rfl (r := ((k + 1 : Nat) : Int)) (by rw [IntWalk.i64_in _ (by omega)]; omega)) ?_
        clear ha32 a32; intro a33 ha33
        refine st_y ha33 rfl (y_assign ha33 rfl) ?_
        clear ha33 a33; intro a34 ha34
        refine wpList_nil ?_
        show ∃ n', n' < _ ∧ _
        have hE : ((ms.take k).filter fun x => decide (x ≠ n)) ++ [ms.getD k 0] = ((ms.take (k + 1)).filter fun x => decide (x ≠ n)) := by rw [dropn_snoc ms n k hk, if_pos hb18]
        rw [hE] at m29 ha34
        exact ⟨ms.length - (k + 1), by omega, k + 1, _, _, by omega, rfl, by rw [← hE]; rw [List.length_append]; show _ + 1 ≤ _; omega, ha34.only [0, 1, 5, 6], m29.ren [(5, 5)] (by decide)⟩
      · skip
        clear ha17
        try simp only [decide_eq_true_eq, decide_eq_false_iff_not, Bool.not_eq_true, Bool.not_eq_false, Bool.not_eq_eq_eq_not, Bool.not_true, Bool.not_false, Bool.not_not, Int.not_lt, Int.not_le, ne_eq, Decidable.not_not] at hb18
        refine wp_cond_false (ha18.ev (x := .tmp 18) rfl) ?_
        refine wp_skip ?_
        refine hK6 _ _ ?_; clear hK6; try clear K6
        have ha35 : Has 28 [(0, _), (1, _), (5, _), (6, _), (18, _)] a17 := ha18.only [0, 1, 5, 6, 18]; clear ha18
        refine wp_region_lit ?_
        refine st_y ha35 rfl (y_move ha35 rfl) ?_
        clear ha35 a17; intro a36 ha36
        refine st_y ha36 rfl (y_add ha36 rfl rfl (r := ((k + 1 : Nat) : Int)) (by rw [IntWalk.i64_in _ (by omega)]; omega)) ?_
        clear ha36 a36; intro a37 ha37
        refine st_y ha37 rfl (y_assign ha37 rfl) ?_
        clear ha37 a37; intro a38 ha38
        refine wpList_nil ?_
        show ∃ n', n' < _ ∧ _
        have hE : ((ms.take k).filter fun x => decide (x ≠ n)) = ((ms.take (k + 1)).filter fun x => decide (x ≠ n)) := by rw [dropn_snoc ms n k hk, if_neg (by have := hb18; simpa using this), List.append_nil]
        rw [hE] at m5 ha38
        exact ⟨ms.length - (k + 1), by omega, k + 1, _, _, by omega, rfl, by rw [← hE]; omega, ha38.only [0, 1, 5, 6], m5.ren [(5, 5)] (by decide)⟩
    · skip
      clear ha9
      try simp only [decide_eq_true_eq, decide_eq_false_iff_not, Bool.not_eq_true, Bool.not_eq_false, Bool.not_eq_eq_eq_not, Bool.not_true, Bool.not_false, Bool.not_not, Int.not_lt, Int.not_le, ne_eq, Decidable.not_not] at hb10
      obtain rfl : k = ms.length := by omega
      rw [List.take_length] at *
      refine wp_cond_false (ha10.ev (x := .tmp 10) rfl) ?_
      refine wp_exit ?_
      refine hK2 _ _ ?_; clear hK2; try clear K2
      refine wp_seq_k (fun K8 hK8 => ?_)
      refine wp_region_lit ?_
      refine st_y ha10 rfl (y_move ha10 rfl) ?_
      clear ha10 a9; intro a39 ha39
      refine wpList_plain rfl (fun K hK => ?_)
      refine e_call ha39 Try.func56 rfl rfl rfl rfl (rof_any _ (ms.filter fun x => decide (x ≠ n)) _ (m5.numsO (i := 5) rfl) (Nat.le_trans (List.length_filter_le _ _) (by omega))) ?_
      rintro e w40 ⟨u40, rfl, ho40, hb40⟩
      obtain ⟨p40, c40, hu40⟩ := ownsRow_shape ho40
      subst hu40
      have m41 := m5.newN 100 hb40 ho40
      clear m5
      clear hb40 ho40
      refine ⟨_, rfl, fun a42 ha42 => ?_⟩; clear ha39 a39
      refine hK _ _ ?_; clear hK K
      refine st_y ha42 rfl (y_assign ha42 rfl) ?_
      clear ha42 a42; intro a43 ha43
      refine wpList_nil ?_
      refine hK8 _ _ ?_; clear hK8; try clear K8
      refine wp_ret ?_
      try dsimp only [Exit.then, Exit.inBlock]
      refine (ret1 (fn := Try.f54) ha43 rfl rfl ?_)
      have m44 := m41.freezeN 100 rfl; clear m41
      exact ⟨_, _, rfl, m44.outF (i := 100) rfl, m44.below⟩
theorem rchange_yes (ms ed : List Int) (ei et ek : Int) (p0 p1 : Option Addr) (c0 c1 : Nat) (w0 : World) (h0 : Rd (fun _ => True) w0 (.slice p0 ms.length c0) (.ns .i64 ms)) (h1 : Rd (fun _ => True) w0 (.slice p1 ed.length c1) (.ns .u8 ed)) (hk2 : ek = 2) (hd2 : ed.length = 2) (hm : ms.length ≤ 900) (hdb : ByteL ed) :
    Calls Try.prog 47 #[.slice p0 ms.length c0, .agg #[.int .i64 ei, .int .i64 et, .int .i64 ek, .slice p1 ed.length c1]] w0 fun e w' => ∃ p c, e = .returned (.slice p (chgL ms ed).length c) ∧ Rd (New w0) w' (.slice p (chgL ms ed).length c) (.ns .i64 (chgL ms ed)) ∧ Below w0.heap.size w0 w' := by
  refine enter (fn := Try.f47) Try.func47 rfl Try.ntmps47 rfl (fun a0 ha0 => ?_)
  simp only [List.zipIdx_cons, List.zipIdx_nil, List.map_cons, List.map_nil, Nat.reduceAdd, Nat.zero_add] at ha0
  have m0 := MemOk.start (fun _ => False) w0
  have hd0 := hdb (ed.getD 0 0) (by rw [List.getD, List.getElem?_eq_getElem (by omega : 0 < ed.length)]; exact List.getElem_mem _)
  refine wp_seq_k (fun K0 hK0 => ?_)
  refine wp_region_lit ?_
  refine wpList_plain rfl (fun K hK => ?_)
  refine e_box ha0 m0 3 (cs := [_, _, _, _]) rfl rfl rfl ?_
  clear ha0 a0 m0; intro g1 a2 w2 ha2 m2 hB2 hg2
  clear hB2 hg2
  refine hK _ _ ?_; clear hK K
  refine st_y ha2 rfl (y_assign ha2 rfl) ?_
  clear ha2 a2; intro a3 ha3
  refine wpList_nil ?_
  refine hK0 _ _ ?_; clear hK0; try clear K0
  refine wp_seq_k (fun K1 hK1 => ?_)
  refine wp_seq_k (fun K2 hK2 => ?_)
  refine wp_region_lit ?_
  refine st_y ha3 rfl (y_fieldAddr ha3 (off := 2) rfl Try.underlying32 rfl (s := 0) (by kernel_rfl) rfl) ?_
  clear ha3 a3; intro a4 ha4
  refine st_y ha4 rfl (y_loadB1 ha4 m2 (i := 3) rfl rfl rfl Try.underlying3 rfl) ?_
  clear ha4 a4; intro a5 ha5
  refine st_y ha5 rfl (y_neq ha5 rfl rfl) ?_
  clear ha5 a5; intro a6 ha6
  refine st_y ha6 rfl (y_move ha6 rfl) ?_
  clear ha6 a6; intro a7 ha7
  refine bool_cases ha7 (t := 8) rfl (fun hb8 ha8 => ?_) (fun hb8 ha8 => ?_)
  · exact absurd hb8 (by simp [hk2])
  clear ha7 hb8
  refine st_g ha8 rfl rfl rfl rfl (y_fieldAddr ha8 (off := 3) rfl Try.underlying32 rfl (s := 0) (by kernel_rfl) rfl) ?_
  clear ha8 a7; intro a9 ha9
  refine st_g ha9 rfl rfl rfl rfl (y_loadB1 ha9 m2 (i := 3) rfl rfl rfl Try.underlying23 rfl) ?_
  clear ha9 a9; intro a10 ha10
  refine st_g ha10 rfl rfl rfl rfl (y_len ha10 rfl Try.underlying23) ?_
  clear ha10 a10; intro a11 ha11
  refine st_g ha11 rfl rfl rfl rfl (y_neq ha11 rfl rfl) ?_
  clear ha11 a11; intro a12 ha12
  refine st_y ha12 rfl (y_pickF ha12 rfl rfl) ?_
  clear ha12 a12; intro a13 ha13
  refine wpList_nil ?_
  refine hK2 _ _ ?_; clear hK2; try clear K2
  refine bool_cases ha13 (t := 13) rfl (fun hb14 ha14 => ?_) (fun hb14 ha14 => ?_)
  · exact absurd hb14 (by simp; omega)
  clear ha13 hb14
  refine wp_cond_false (ha14.ev (x := .tmp 13) rfl) ?_
  refine wp_skip ?_
  refine hK1 _ _ ?_; clear hK1; try clear K1
  refine wp_seq_k (fun K3 hK3 => ?_)
  refine wp_seq_k (fun K4 hK4 => ?_)
  have ha15 : Has 34 [(0, _), (3, _), (4, _)] a13 := ha14.only [0, 3, 4]; clear ha14
  refine wp_region_lit ?_
  refine st_y ha15 rfl (y_fieldAddr ha15 (off := 3) rfl Try.underlying32 rfl (s := 0) (by kernel_rfl) rfl) ?_
  clear ha15 a13; intro a16 ha16
  refine st_y ha16 rfl (y_loadB1 ha16 m2 (i := 3) rfl rfl rfl Try.underlying23 rfl) ?_
  clear ha16 a16; intro a17 ha17
  obtain ⟨gx18, ox18, hp18, hl18, hrg18⟩ := h1.extN (1) (by omega)
  cases hp18; clear hl18
  refine st_y ha17 rfl (y_idx ha17 rfl rfl Try.underlying23 sz5rc (1) rfl (by omega)) ?_
  clear ha17 a17; intro a19 ha19
  refine st_y ha19 rfl (y_loadAt1 ha19 (hrg18 m2 rfl) (q := 0) rfl rfl rfl Try.underlying5 rfl) ?_
  clear ha19 a19; intro a20 ha20
  refine st_y ha20 rfl (y_eql ha20 rfl rfl) ?_
  clear ha20 a20; intro a21 ha21
  refine wpList_nil ?_
  refine hK4 _ _ ?_; clear hK4; try clear K4
  refine bool_cases ha21 (t := 19) rfl (fun hb22 ha22 => ?_) (fun hb22 ha22 => ?_)
  · skip
    clear ha21
    try simp only [decide_eq_true_eq, decide_eq_false_iff_not, Bool.not_eq_true, Bool.not_eq_false, Bool.not_eq_eq_eq_not, Bool.not_true, Bool.not_false, Bool.not_not, Int.not_lt, Int.not_le, ne_eq, Decidable.not_not] at hb22
    refine wp_cond_true (ha22.ev (x := .tmp 19) rfl) ?_
    refine wp_seq_k (fun K5 hK5 => ?_)
    refine wp_region_lit ?_
    refine st_y ha22 rfl (y_move ha22 rfl) ?_
    clear ha22 a21; intro a23 ha23
    refine st_y ha23 rfl (y_fieldAddr ha23 (off := 3) rfl Try.underlying32 rfl (s := 0) (by kernel_rfl) rfl) ?_
    clear ha23 a23; intro a24 ha24
    refine st_y ha24 rfl (y_loadB1 ha24 m2 (i := 3) rfl rfl rfl Try.underlying23 rfl) ?_
    clear ha24 a24; intro a25 ha25
    obtain ⟨gx26, ox26, hp26, hl26, hrg26⟩ := h1.extN (0) (by omega)
    cases hp26; clear hl26
    refine st_y ha25 rfl (y_idx ha25 rfl rfl Try.underlying23 sz5rc (0) rfl (by omega)) ?_
    clear ha25 a25; intro a27 ha27
    refine st_y ha27 rfl (y_loadAt1 ha27 (hrg26 m2 rfl) (q := 0) rfl rfl rfl Try.underlying5 rfl) ?_
    clear ha27 a27; intro a28 ha28
    refine st_y ha28 rfl (y_conv ha28 rfl Try.underlying5 Try.underlying3 (r := ed.getD 0 0) (IntWalk.i64_in _ (by omega))) ?_
    clear ha28 a28; intro a29 ha29
    refine wpList_plain rfl (fun K hK => ?_)
    refine e_call ha29 Try.func53 rfl rfl rfl rfl (rwith_any ms (ed.getD 0 0) _ _ _ ((h0.now' m2 rfl).any) hm) ?_
    rintro e w30 ⟨p30, c30, rfl, hd30, hb30⟩
    have m31 := m2.callF 4 rfl hb30 hd30
    clear m2
    clear hb30 hd30
    refine ⟨_, rfl, fun a32 ha32 => ?_⟩; clear ha29 a29
    refine hK _ _ ?_; clear hK K
    refine st_y ha32 rfl (y_assign ha32 rfl) ?_
    clear ha32 a32; intro a33 ha33
    refine wpList_nil ?_
    refine hK5 _ _ ?_; clear hK5; try clear K5
    refine wp_ret ?_
    try dsimp only [Exit.then, Exit.inBlock]
    refine (ret1 (fn := Try.f47) ha33 rfl rfl ?_)
    have hE := chg_with (ms := ms) hb22
    rw [hE] at m31
    rw [hE]
    exact ⟨_, _, rfl, m31.outF (i := 4) rfl, m31.below⟩
  · skip
    clear ha21
    try simp only [decide_eq_true_eq, decide_eq_false_iff_not, Bool.not_eq_true, Bool.not_eq_false, Bool.not_eq_eq_eq_not, Bool.not_true, Bool.not_false, Bool.not_not, Int.not_lt, Int.not_le, ne_eq, Decidable.not_not] at hb22
    refine wp_cond_false (ha22.ev (x := .tmp 19) rfl) ?_
    refine wp_skip ?_
    refine hK3 _ _ ?_; clear hK3; try clear K3
    refine wp_seq_k (fun K6 hK6 => ?_)
    refine wp_region_lit ?_
    refine st_y ha22 rfl (y_move ha22 rfl) ?_
    clear ha22 a21; intro a34 ha34
    refine st_y ha34 rfl (y_fieldAddr ha34 (off := 3) rfl Try.underlying32 rfl (s := 0) (by kernel_rfl) rfl) ?_
    clear ha34 a34; intro a35 ha35
    refine st_y ha35 rfl (y_loadB1 ha35 m2 (i := 3) rfl rfl rfl Try.underlying23 rfl) ?_
    clear ha35 a35; intro a36 ha36
    obtain ⟨gx37, ox37, hp37, hl37, hrg37⟩ := h1.extN (0) (by omega)
    cases hp37; clear hl37
    refine st_y ha36 rfl (y_idx ha36 rfl rfl Try.underlying23 sz5rc (0) rfl (by omega)) ?_
    clear ha36 a36; intro a38 ha38
    refine st_y ha38 rfl (y_loadAt1 ha38 (hrg37 m2 rfl) (q := 0) rfl rfl rfl Try.underlying5 rfl) ?_
    clear ha38 a38; intro a39 ha39
    refine st_y ha39 rfl (y_conv ha39 rfl Try.underlying5 Try.underlying3 (r := ed.getD 0 0) (IntWalk.i64_in _ (by omega))) ?_
    clear ha39 a39; intro a40 ha40
    refine wpList_plain rfl (fun K hK => ?_)
    refine e_call ha40 Try.func54 rfl rfl rfl rfl (rwithout_any ms (ed.getD 0 0) _ _ _ ((h0.now' m2 rfl).any) hm) ?_
    rintro e w41 ⟨p41, c41, rfl, hd41, hb41⟩
    have m42 := m2.callF 4 rfl hb41 hd41
    clear m2
    clear hb41 hd41
    refine ⟨_, rfl, fun a43 ha43 => ?_⟩; clear ha40 a40
    refine hK _ _ ?_; clear hK K
    refine st_y ha43 rfl (y_assign ha43 rfl) ?_
    clear ha43 a43; intro a44 ha44
    refine wpList_nil ?_
    refine hK6 _ _ ?_; clear hK6; try clear K6
    refine wp_ret ?_
    try dsimp only [Exit.then, Exit.inBlock]
    refine (ret1 (fn := Try.f47) ha44 rfl rfl ?_)
    have hE := chg_out (ms := ms) hb22
    rw [hE] at m42
    rw [hE]
    exact ⟨_, _, rfl, m42.outF (i := 4) rfl, m42.below⟩
theorem rchange_no (ms ed : List Int) (ei et ek : Int) (p0 p1 : Option Addr) (c0 c1 : Nat) (w0 : World) (h0 : Rd (fun _ => True) w0 (.slice p0 ms.length c0) (.ns .i64 ms)) (h1 : Rd (fun _ => True) w0 (.slice p1 ed.length c1) (.ns .u8 ed)) (hno : ¬ ek = 2 ∨ ¬ ed.length = 2) :
    Calls Try.prog 47 #[.slice p0 ms.length c0, .agg #[.int .i64 ei, .int .i64 et, .int .i64 ek, .slice p1 ed.length c1]] w0 fun e w' => e = .returned (.slice p0 ms.length c0) ∧ Below w0.heap.size w0 w' := by
  refine enter (fn := Try.f47) Try.func47 rfl Try.ntmps47 rfl (fun a0 ha0 => ?_)
  simp only [List.zipIdx_cons, List.zipIdx_nil, List.map_cons, List.map_nil, Nat.reduceAdd, Nat.zero_add] at ha0
  have m0 := MemOk.start (fun _ => False) w0
  refine wp_seq_k (fun K0 hK0 => ?_)
  refine wp_region_lit ?_
  refine wpList_plain rfl (fun K hK => ?_)
  refine e_box ha0 m0 3 (cs := [_, _, _, _]) rfl rfl rfl ?_
  clear ha0 a0 m0; intro g1 a2 w2 ha2 m2 hB2 hg2
  clear hB2 hg2
  refine hK _ _ ?_; clear hK K
  refine st_y ha2 rfl (y_assign ha2 rfl) ?_
  clear ha2 a2; intro a3 ha3
  refine wpList_nil ?_
  refine hK0 _ _ ?_; clear hK0; try clear K0
  refine wp_seq_k (fun K1 hK1 => ?_)
  refine wp_seq_k (fun K2 hK2 => ?_)
  refine wp_region_lit ?_
  refine st_y ha3 rfl (y_fieldAddr ha3 (off := 2) rfl Try.underlying32 rfl (s := 0) (by kernel_rfl) rfl) ?_
  clear ha3 a3; intro a4 ha4
  refine st_y ha4 rfl (y_loadB1 ha4 m2 (i := 3) rfl rfl rfl Try.underlying3 rfl) ?_
  clear ha4 a4; intro a5 ha5
  refine st_y ha5 rfl (y_neq ha5 rfl rfl) ?_
  clear ha5 a5; intro a6 ha6
  refine st_y ha6 rfl (y_move ha6 rfl) ?_
  clear ha6 a6; intro a7 ha7
  refine bool_cases ha7 (t := 8) rfl (fun hb8 ha8 => ?_) (fun hb8 ha8 => ?_)
  · skip
    clear ha7
    try simp only [decide_eq_true_eq, decide_eq_false_iff_not, Bool.not_eq_true, Bool.not_eq_false, Bool.not_eq_eq_eq_not, Bool.not_true, Bool.not_false, Bool.not_not, Int.not_lt, Int.not_le, ne_eq, Decidable.not_not] at hb8
    refine st_skip ha8 rfl rfl rfl rfl ?_
    clear ha8 a7; intro a9 ha9
    refine st_skip ha9 rfl rfl rfl rfl ?_
    clear ha9 a9; intro a10 ha10
    refine st_skip ha10 rfl rfl rfl rfl ?_
    clear ha10 a10; intro a11 ha11
    refine st_skip ha11 rfl rfl rfl rfl ?_
    clear ha11 a11; intro a12 ha12
    refine st_y ha12 rfl (y_pickT ha12 rfl rfl) ?_
    clear ha12 a12; intro a13 ha13
    refine wpList_nil ?_
    refine hK2 _ _ ?_; clear hK2; try clear K2
    refine wp_cond_true (ha13.ev (x := .tmp 13) rfl) ?_
    refine wp_seq_k (fun K3 hK3 => ?_)
    have ha14 : Has 34 [(0, _), (3, _), (4, _)] a13 := ha13.only [0, 3, 4]; clear ha13
    refine wp_region_lit ?_
    refine st_y ha14 rfl (y_move ha14 rfl) ?_
    clear ha14 a13; intro a15 ha15
    refine st_y ha15 rfl (y_assign ha15 rfl) ?_
    clear ha15 a15; intro a16 ha16
    refine wpList_nil ?_
    refine hK3 _ _ ?_; clear hK3; try clear K3
    refine wp_ret ?_
    try dsimp only [Exit.then, Exit.inBlock]
    refine (ret1 (fn := Try.f47) ha16 rfl rfl ?_)
    exact ⟨rfl, m2.below⟩
  · skip
    clear ha7
    try simp only [decide_eq_true_eq, decide_eq_false_iff_not, Bool.not_eq_true, Bool.not_eq_false, Bool.not_eq_eq_eq_not, Bool.not_true, Bool.not_false, Bool.not_not, Int.not_lt, Int.not_le, ne_eq, Decidable.not_not] at hb8
    refine st_g ha8 rfl rfl rfl rfl (y_fieldAddr ha8 (off := 3) rfl Try.underlying32 rfl (s := 0) (by kernel_rfl) rfl) ?_
    clear ha8 a7; intro a17 ha17
    refine st_g ha17 rfl rfl rfl rfl (y_loadB1 ha17 m2 (i := 3) rfl rfl rfl Try.underlying23 rfl) ?_
    clear ha17 a17; intro a18 ha18
    refine st_g ha18 rfl rfl rfl rfl (y_len ha18 rfl Try.underlying23) ?_
    clear ha18 a18; intro a19 ha19
    refine st_g ha19 rfl rfl rfl rfl (y_neq ha19 rfl rfl) ?_
    clear ha19 a19; intro a20 ha20
    refine st_y ha20 rfl (y_pickF ha20 rfl rfl) ?_
    clear ha20 a20; intro a21 ha21
    refine wpList_nil ?_
    refine hK2 _ _ ?_; clear hK2; try clear K2
    refine bool_cases ha21 (t := 13) rfl (fun hb22 ha22 => ?_) (fun hb22 ha22 => ?_)
    rotate_left
    · exact absurd hb22 (by simp at *; omega)
    clear ha21 hb22
    refine wp_cond_true (ha22.ev (x := .tmp 13) rfl) ?_
    refine wp_seq_k (fun K4 hK4 => ?_)
    have ha23 : Has 34 [(0, _), (3, _), (4, _)] a21 := ha22.only [0, 3, 4]; clear ha22
    refine wp_region_lit ?_
    refine st_y ha23 rfl (y_move ha23 rfl) ?_
    clear ha23 a21; intro a24 ha24
    refine st_y ha24 rfl (y_assign ha24 rfl) ?_
    clear ha24 a24; intro a25 ha25
    refine wpList_nil ?_
    refine hK4 _ _ ?_; clear hK4; try clear K4
    refine wp_ret ?_
    try dsimp only [Exit.then, Exit.inBlock]
    refine (ret1 (fn := Try.f47) ha25 rfl rfl ?_)
    exact ⟨rfl, m2.below⟩
theorem rconf_any (B : Nat) (bi bt : Int) (cf d : List Int) (es : List (Int × Int × Int × List Int)) (pc pd pl : Option Addr) (cc cd cl : Nat) (w0 : World) (i : Int) (hB : Blk w0 B 41 [.int .i64 bi, .int .i64 bt, .slice pc cf.length cc, .slice pd d.length cd, .slice pl (es.map entD).length cl]) (hl : Rd (fun _ => True) w0 (.slice pl (es.map entD).length cl) (.l 4 (es.map entD))) (hn : es.length ≤ 1000000) (hc : Rd (fun _ => True) w0 (.slice pc cf.length cc) (.ns .i64 cf)) (hcf : cf.length ≤ 900) (heb : EntsB es) (her0 : EntsR es) :
    Calls Try.prog 33 #[.pointer (some ⟨B, 0, none⟩), .int .i64 i] w0 fun e w' => ∃ p c, e = .returned (.slice p (confL cf es i).length c) ∧ Rd (New w0) w' (.slice p (confL cf es i).length c) (.ns .i64 (confL cf es i)) ∧ Below w0.heap.size w0 w' := by
  refine enter (fn := Try.f33) Try.func33 rfl Try.ntmps33 rfl (fun a0 ha0 => ?_)
  simp only [List.zipIdx_cons, List.zipIdx_nil, List.map_cons, List.map_nil, Nat.reduceAdd, Nat.zero_add] at ha0
  have m0 := MemOk.start (fun _ => False) w0
  refine wp_seq_k (fun K0 hK0 => ?_)
  refine wp_region_lit ?_
  refine st_y ha0 rfl (y_assign ha0 rfl) ?_
  clear ha0 a0; intro a1 ha1
  refine wpList_nil ?_
  refine hK0 _ _ ?_; clear hK0; try clear K0
  refine wp_seq_k (fun K1 hK1 => ?_)
  refine wp_region_lit ?_
  refine st_y ha1 rfl (y_move ha1 rfl) ?_
  clear ha1 a1; intro a2 ha2
  refine st_y ha2 rfl (y_nilCheck ha2 rfl) ?_
  clear ha2 a2; intro a3 ha3
  refine st_y ha3 rfl (y_fieldAddr ha3 (off := 0) rfl Try.underlying41 rfl (s := 3) (by kernel_rfl) rfl) ?_
  clear ha3 a3; intro a4 ha4
  refine st_y ha4 rfl (y_fieldAddr ha4 (off := 2) rfl Try.underlying28 rfl (s := 0) (by kernel_rfl) rfl) ?_
  clear ha4 a4; intro a5 ha5
  refine st_y ha5 rfl (y_loadX1 ha5 (hB.now m0 rfl) rfl rfl Try.underlying26 rfl) ?_
  clear ha5 a5; intro a6 ha6
  refine wpList_plain rfl (fun K hK => ?_)
  refine e_app0N ha6 m0 7 rfl rfl (hc.now' m0 rfl).ns_out.nums Try.underlying26 inf3rcf (by decide) (by omega) rfl ?_
  clear ha6 a6 m0; intro p7 c7 a8 w8 ha8 m8 
  refine hK _ _ ?_; clear hK K
  refine st_y ha8 rfl (y_assign ha8 rfl) ?_
  clear ha8 a8; intro a9 ha9
  refine wpList_nil ?_
  refine hK1 _ _ ?_; clear hK1; try clear K1
  refine wp_seq_k (fun K2 hK2 => ?_)
  refine wp_seq_k (fun K3 hK3 => ?_)
  have ha10 : Has 44 [(0, _), (1, _), (4, _), (5, _)] a9 := ha9.only [0, 1, 4, 5]; clear ha9
  refine wp_region_lit ?_
  refine st_y ha10 rfl (y_assign ha10 rfl) ?_
  clear ha10 a9; intro a11 ha11
  refine wpList_nil ?_
  refine hK3 _ _ ?_; clear hK3; try clear K3
  refine wp_block ?_
  have m12 := m8.freezeN 7 rfl; clear m8
  refine wp_loop_ghost (fun g a w => ∃ (k : Nat) (ms : List Int) (p : Option Addr) (c : Nat), k ≤ es.length ∧ g = es.length - k ∧ ms = (confTo cf (es.take k)) ∧ ms.length ≤ 900 ∧ (∀ j, j < k → (es.getD j e0).1 ≤ i) ∧ Has 44 [(0, .pointer (some ⟨B, 0, none⟩)), (1, .int .i64 i), (5, .slice p ms.length c), (6, .int .i64 k)] a ∧ MemOk (cn w0) w0 [(6, .dat (.slice p ms.length c) (.ns .i64 ms))] w) (es.length) ?_ ?_
  · exact ⟨0, cf, _, _, Nat.zero_le _, rfl, rfl, hcf, (fun j hj => by omega), ha11.only [0, 1, 5, 6], m12.ren [(6, 7)] (by decide)⟩
  · skip
    clear ha11 m12
    rintro g a13 w13 ⟨k, ms, p, c, hkl, hg, hms, hml, hle, ha13, m13⟩
    refine wp_seq_k (fun K4 hK4 => ?_)
    refine wp_seq_k (fun K5 hK5 => ?_)
    refine wp_region_lit ?_
    refine st_y ha13 rfl (y_move ha13 rfl) ?_
    clear ha13 a13; intro a14 ha14
    refine st_y ha14 rfl (y_move ha14 rfl) ?_
    clear ha14 a14; intro a15 ha15
    refine st_y ha15 rfl (y_nilCheck ha15 rfl) ?_
    clear ha15 a15; intro a16 ha16
    refine st_y ha16 rfl (y_fieldAddr ha16 (off := 4) rfl Try.underlying41 rfl (s := 0) (by kernel_rfl) rfl) ?_
    clear ha16 a16; intro a17 ha17
    refine st_y ha17 rfl (y_loadX1 ha17 (hB.now m13 rfl) rfl rfl Try.underlying29 rfl) ?_
    clear ha17 a17; intro a18 ha18
    refine st_y ha18 rfl (y_len ha18 rfl Try.underlying29) ?_
    clear ha18 a18; intro a19 ha19
    refine st_y ha19 rfl (y_lss ha19 rfl rfl) ?_
    clear ha19 a19; intro a20 ha20
    refine st_y ha20 rfl (y_move ha20 rfl) ?_
    clear ha20 a20; intro a21 ha21
    refine bool_cases ha21 (t := 20) rfl (fun hb22 ha22 => ?_) (fun hb22 ha22 => ?_)
    · skip
      clear ha21
      try simp only [decide_eq_true_eq, decide_eq_false_iff_not, Bool.not_eq_true, Bool.not_eq_false, Bool.not_eq_eq_eq_not, Bool.not_true, Bool.not_false, Bool.not_not, Int.not_lt, Int.not_le, ne_eq, Decidable.not_not] at hb22
      have hk : k < es.length := by rw [List.length_map] at hb22; omega
      obtain ⟨⟨ei, et, ek, ed⟩, hes⟩ : ∃ e, es[k]? = some e := ⟨_, List.getElem?_eq_getElem hk⟩
      have hedb := heb _ (List.mem_of_getElem? hes)
      have her := her0 _ (List.mem_of_getElem? hes)
      dsimp only at hedb her
      refine st_g ha22 rfl rfl rfl rfl (y_move ha22 rfl) ?_
      clear ha22 a21; intro a23 ha23
      refine st_g ha23 rfl rfl rfl rfl (y_nilCheck ha23 rfl) ?_
      clear ha23 a23; intro a24 ha24
      refine st_g ha24 rfl rfl rfl rfl (y_fieldAddr ha24 (off := 4) rfl Try.underlying41 rfl (s := 0) (by kernel_rfl) rfl) ?_
      clear ha24 a24; intro a25 ha25
      refine st_g ha25 rfl rfl rfl rfl (y_loadX1 ha25 (hB.now m13 rfl) rfl rfl Try.underlying29 rfl) ?_
      clear ha25 a25; intro a26 ha26
      refine st_g ha26 rfl rfl rfl rfl (y_move ha26 rfl) ?_
      clear ha26 a26; intro a27 ha27
      obtain ⟨gx28, ox28, vx28, hp28, hl28, hR28, hrg28⟩ := hl.extA (k) (r := [.v (.int .i64 ei), .v (.int .i64 et), .v (.int .i64 ek), .ns .u8 ed]) (ent_get hes)
      cases hp28; clear hl28
      rcases hR28 with _ | ⟨hd28_0, _ | ⟨hd28_1, _ | ⟨hd28_2, _ | ⟨hd28_3, _ | _⟩⟩⟩⟩
      obtain rfl := hd28_0.v_out
      clear hd28_0
      obtain rfl := hd28_1.v_out
      clear hd28_1
      obtain rfl := hd28_2.v_out
      clear hd28_2
      obtain ⟨p29, c29, hv29, hw29⟩ := hd28_3.ns_shape; subst hv29
      refine st_g ha27 rfl rfl rfl rfl (y_idx ha27 rfl rfl Try.underlying29 sz32rcf (k) rfl (by rw [List.length_map]; exact hk)) ?_
      clear ha27 a27; intro a30 ha30
      refine st_g ha30 rfl rfl rfl rfl (y_fieldAddrQ ha30 0 rfl Try.underlying32 rfl (s := 0) (by kernel_rfl) rfl) ?_
      clear ha30 a30; intro a31 ha31
      refine st_g ha31 rfl rfl rfl rfl (y_loadAt1 ha31 (hrg28 m13 rfl) (q := 0) rfl rfl rfl Try.underlying3 rfl) ?_
      clear ha31 a31; intro a32 ha32
      refine st_g ha32 rfl rfl rfl rfl (y_move ha32 rfl) ?_
      clear ha32 a32; intro a33 ha33
      refine st_g ha33 rfl rfl rfl rfl (y_leq ha33 rfl rfl) ?_
      clear ha33 a33; intro a34 ha34
      refine st_y ha34 rfl (y_pickT ha34 rfl rfl) ?_
      clear ha34 a34; intro a35 ha35
      refine wpList_nil ?_
      refine hK5 _ _ ?_; clear hK5; try clear K5
      refine bool_cases ha35 (t := 31) rfl (fun hb36 ha36 => ?_) (fun hb36 ha36 => ?_)
      · skip
        clear ha35
        try simp only [decide_eq_true_eq, decide_eq_false_iff_not, Bool.not_eq_true, Bool.not_eq_false, Bool.not_eq_eq_eq_not, Bool.not_true, Bool.not_false, Bool.not_not, Int.not_lt, Int.not_le, ne_eq, Decidable.not_not] at hb36
        refine wp_cond_true (ha36.ev (x := .tmp 31) rfl) ?_
        refine wp_skip ?_
        refine hK4 _ _ ?_; clear hK4; try clear K4
        refine wp_seq_k (fun K6 hK6 => ?_)
        refine wp_block ?_
        rcases Int.decEq ek 2 with hk2 | hk2
        · skip
          have ha37 : Has 44 [(0, _), (1, _), (5, _), (6, _), (20, _), (30, _), (31, _)] a35 := ha36.only [0, 1, 5, 6, 20, 30, 31]; clear ha36
          refine wp_region_lit ?_
          refine st_y ha37 rfl (y_move ha37 rfl) ?_
          clear ha37 a35; intro a38 ha38
          refine st_y ha38 rfl (y_move ha38 rfl) ?_
          clear ha38 a38; intro a39 ha39
          refine st_y ha39 rfl (y_nilCheck ha39 rfl) ?_
          clear ha39 a39; intro a40 ha40
          refine st_y ha40 rfl (y_fieldAddr ha40 (off := 4) rfl Try.underlying41 rfl (s := 0) (by kernel_rfl) rfl) ?_
          clear ha40 a40; intro a41 ha41
          refine st_y ha41 rfl (y_loadX1 ha41 (hB.now m13 rfl) rfl rfl Try.underlying29 rfl) ?_
          clear ha41 a41; intro a42 ha42
          refine st_y ha42 rfl (y_move ha42 rfl) ?_
          clear ha42 a42; intro a43 ha43
          obtain ⟨gx44, ox44, vx44, hp44, hl44, hR44, hrg44⟩ := hl.extA (k) (r := [.v (.int .i64 ei), .v (.int .i64 et), .v (.int .i64 ek), .ns .u8 ed]) (ent_get hes)
          cases hp44; clear hl44
          rcases hR44 with _ | ⟨hd44_0, _ | ⟨hd44_1, _ | ⟨hd44_2, _ | ⟨hd44_3, _ | _⟩⟩⟩⟩
          obtain rfl := hd44_0.v_out
          clear hd44_0
          obtain rfl := hd44_1.v_out
          clear hd44_1
          obtain rfl := hd44_2.v_out
          clear hd44_2
          obtain ⟨p45, c45, hv45, hw45⟩ := hd44_3.ns_shape; subst hv45
          refine st_y ha43 rfl (y_idx ha43 rfl rfl Try.underlying29 sz32rcf (k) rfl (by rw [List.length_map]; exact hk)) ?_
          clear ha43 a43; intro a46 ha46
          refine st_y ha46 rfl (y_loadAt ha46 (hrg44 m13 rfl) rfl Try.underlying32 rfl sz32rcf) ?_
          clear ha46 a46; intro a47 ha47
          refine wpList_plain rfl (fun K hK => ?_)
          refine e_call ha47 Try.func47 rfl rfl rfl rfl (rchange_no ms ed ei et ek _ _ _ _ _ ((m13.rd (i := 6) rfl).any) ((hd44_3.now' m13 rfl).any) (.inl hk2)) ?_
          rintro e w48 ⟨rfl, hb48⟩
          have m49 := m13.later hb48
          clear m13
          clear hb48
          refine ⟨_, rfl, fun a50 ha50 => ?_⟩; clear ha47 a47
          refine hK _ _ ?_; clear hK K
          refine st_y ha50 rfl (y_assign ha50 rfl) ?_
          clear ha50 a50; intro a51 ha51
          refine wpList_nil ?_
          refine hK6 _ _ ?_; clear hK6; try clear K6
          have ha52 : Has 44 [(0, _), (1, _), (5, _), (6, _), (20, _), (30, _), (31, _)] a51 := ha51.only [0, 1, 5, 6, 20, 30, 31]; clear ha51
          refine wp_region_lit ?_
          refine st_y ha52 rfl (y_move ha52 rfl) ?_
          clear ha52 a51; intro a53 ha53
          refine st_y ha53 rfl (y_add ha53 rfl rfl (r := ((k + 1 : Nat) : Int)) (by rw [IntWalk.i64_in _ (by omega)]; omega)) ?_
          clear ha53 a53; intro a54 ha54
          refine st_y ha54 rfl (y_assign ha54 rfl) ?_
          clear ha54 a54; intro a55 ha55
          refine wpList_nil ?_
          show ∃ n', n' < _ ∧ _
          exact ⟨es.length - (k + 1), by omega, k + 1, ms, _, _, by omega, rfl, (conf_no hms hes (.inl hk2)), hml, le_snoc hle hes hb36, ha55.only [0, 1, 5, 6], m49.ren [(6, 6)] (by decide)⟩
        · skip
          have hok2 := her hk2
          have ha56 : Has 44 [(0, _), (1, _), (5, _), (6, _), (20, _), (30, _), (31, _)] a35 := ha36.only [0, 1, 5, 6, 20, 30, 31]; clear ha36
          refine wp_region_lit ?_
          refine st_y ha56 rfl (y_move ha56 rfl) ?_
          clear ha56 a35; intro a57 ha57
          refine st_y ha57 rfl (y_move ha57 rfl) ?_
          clear ha57 a57; intro a58 ha58
          refine st_y ha58 rfl (y_nilCheck ha58 rfl) ?_
          clear ha58 a58; intro a59 ha59
          refine st_y ha59 rfl (y_fieldAddr ha59 (off := 4) rfl Try.underlying41 rfl (s := 0) (by kernel_rfl) rfl) ?_
          clear ha59 a59; intro a60 ha60
          refine st_y ha60 rfl (y_loadX1 ha60 (hB.now m13 rfl) rfl rfl Try.underlying29 rfl) ?_
          clear ha60 a60; intro a61 ha61
          refine st_y ha61 rfl (y_move ha61 rfl) ?_
          clear ha61 a61; intro a62 ha62
          obtain ⟨gx63, ox63, vx63, hp63, hl63, hR63, hrg63⟩ := hl.extA (k) (r := [.v (.int .i64 ei), .v (.int .i64 et), .v (.int .i64 ek), .ns .u8 ed]) (ent_get hes)
          cases hp63; clear hl63
          rcases hR63 with _ | ⟨hd63_0, _ | ⟨hd63_1, _ | ⟨hd63_2, _ | ⟨hd63_3, _ | _⟩⟩⟩⟩
          obtain rfl := hd63_0.v_out
          clear hd63_0
          obtain rfl := hd63_1.v_out
          clear hd63_1
          obtain rfl := hd63_2.v_out
          clear hd63_2
          obtain ⟨p64, c64, hv64, hw64⟩ := hd63_3.ns_shape; subst hv64
          refine st_y ha62 rfl (y_idx ha62 rfl rfl Try.underlying29 sz32rcf (k) rfl (by rw [List.length_map]; exact hk)) ?_
          clear ha62 a62; intro a65 ha65
          refine st_y ha65 rfl (y_loadAt ha65 (hrg63 m13 rfl) rfl Try.underlying32 rfl sz32rcf) ?_
          clear ha65 a65; intro a66 ha66
          refine wpList_plain rfl (fun K hK => ?_)
          refine e_call ha66 Try.func47 rfl rfl rfl rfl (rchange_yes ms ed ei et ek _ _ _ _ _ ((m13.rd (i := 6) rfl).any) ((hd63_3.now' m13 rfl).any) hk2 (entOk_two hk2 hok2) (by omega) hedb) ?_
          rintro e w67 ⟨p67, c67, rfl, hd67, hb67⟩
          have m68 := m13.callF 102 rfl hb67 hd67
          clear m13
          clear hb67 hd67
          refine ⟨_, rfl, fun a69 ha69 => ?_⟩; clear ha66 a66
          refine hK _ _ ?_; clear hK K
          refine st_y ha69 rfl (y_assign ha69 rfl) ?_
          clear ha69 a69; intro a70 ha70
          refine wpList_nil ?_
          refine hK6 _ _ ?_; clear hK6; try clear K6
          have ha71 : Has 44 [(0, _), (1, _), (5, _), (6, _), (20, _), (30, _), (31, _)] a70 := ha70.only [0, 1, 5, 6, 20, 30, 31]; clear ha70
          refine wp_region_lit ?_
          refine st_y ha71 rfl (y_move ha71 rfl) ?_
          clear ha71 a70; intro a72 ha72
          refine st_y ha72 rfl (y_add ha72 rfl rfl (r := ((k + 1 : Nat) : Int)) (by rw [IntWalk.i64_in _ (by omega)]; omega)) ?_
          clear ha72 a72; intro a73 ha73
          refine st_y ha73 rfl (y_assign ha73 rfl) ?_
          clear ha73 a73; intro a74 ha74
          refine wpList_nil ?_
          show ∃ n', n' < _ ∧ _
          exact ⟨es.length - (k + 1), by omega, k + 1, (chgL ms ed), _, _, by omega, rfl, (conf_yes hms hes hk2 hok2), (Nat.le_trans (chgL_len _ _) (by decide)), le_snoc hle hes hb36, ha74.only [0, 1, 5, 6], m68.ren [(6, 102)] (by decide)⟩
      · skip
        clear ha35
        try simp only [decide_eq_true_eq, decide_eq_false_iff_not, Bool.not_eq_true, Bool.not_eq_false, Bool.not_eq_eq_eq_not, Bool.not_true, Bool.not_false, Bool.not_not, Int.not_lt, Int.not_le, ne_eq, Decidable.not_not] at hb36
        refine wp_cond_false (ha36.ev (x := .tmp 31) rfl) ?_
        refine wp_exit ?_
        refine hK2 _ _ ?_; clear hK2; try clear K2
        refine wp_seq_k (fun K7 hK7 => ?_)
        have ha75 : Has 44 [(0, _), (1, _), (5, _), (6, _), (20, _), (30, _), (31, _)] a35 := ha36.only [0, 1, 5, 6, 20, 30, 31]; clear ha36
        refine wp_region_lit ?_
        refine st_y ha75 rfl (y_move ha75 rfl) ?_
        clear ha75 a35; intro a76 ha76
        refine st_y ha76 rfl (y_assign ha76 rfl) ?_
        clear ha76 a76; intro a77 ha77
        refine wpList_nil ?_
        refine hK7 _ _ ?_; clear hK7; try clear K7
        refine wp_ret ?_
        try dsimp only [Exit.then, Exit.inBlock]
        refine (ret1 (fn := Try.f33) ha77 rfl rfl ?_)
        rw [conf_end hle (.inr ⟨hk, by rw [List.getD, hes]; show ¬ ei ≤ i; omega⟩)] at hms
        subst hms
        exact ⟨_, _, rfl, m13.outF (i := 6) rfl, m13.below⟩
    · skip
      clear ha21
      try simp only [decide_eq_true_eq, decide_eq_false_iff_not, Bool.not_eq_true, Bool.not_eq_false, Bool.not_eq_eq_eq_not, Bool.not_true, Bool.not_false, Bool.not_not, Int.not_lt, Int.not_le, ne_eq, Decidable.not_not] at hb22
      obtain rfl : k = es.length := by rw [List.length_map] at hb22; omega
      refine st_skip ha22 rfl rfl rfl rfl ?_
      clear ha22 a21; intro a78 ha78
      refine st_skip ha78 rfl rfl rfl rfl ?_
      clear ha78 a78; intro a79 ha79
      refine st_skip ha79 rfl rfl rfl rfl ?_
      clear ha79 a79; intro a80 ha80
      refine st_skip ha80 rfl rfl rfl rfl ?_
      clear ha80 a80; intro a81 ha81
      refine st_skip ha81 rfl rfl rfl rfl ?_
      clear ha81 a81; intro a82 ha82
      refine st_skip ha82 rfl rfl rfl rfl ?_
      clear ha82 a82; intro a83 ha83
      refine st_skip ha83 rfl rfl rfl rfl ?_
      clear ha83 a83; intro a84 ha84
      refine st_skip ha84 rfl rfl rfl rfl ?_
      clear ha84 a84; intro a85 ha85
      refine st_skip ha85 rfl rfl rfl rfl ?_
      clear ha85 a85; intro a86 ha86
      refine st_skip ha86 rfl rfl rfl rfl ?_
      clear ha86 a86; intro a87 ha87
      refine st_y ha87 rfl (y_pickF ha87 rfl rfl) ?_
      clear ha87 a87; intro a88 ha88
      refine wpList_nil ?_
      refine hK5 _ _ ?_; clear hK5; try clear K5
      refine wp_cond_false (ha88.ev (x := .tmp 31) rfl) ?_
      refine wp_exit ?_
      refine hK2 _ _ ?_; clear hK2; try clear K2
      refine wp_seq_k (fun K8 hK8 => ?_)
      have ha89 : Has 44 [(0, _), (1, _), (5, _), (6, _), (20, _), (30, _), (31, _)] a88 := ha88.only [0, 1, 5, 6, 20, 30, 31]; clear ha88
      refine wp_region_lit ?_
      refine st_y ha89 rfl (y_move ha89 rfl) ?_
      clear ha89 a88; intro a90 ha90
      refine st_y ha90 rfl (y_assign ha90 rfl) ?_
      clear ha90 a90; intro a91 ha91
      refine wpList_nil ?_
      refine hK8 _ _ ?_; clear hK8; try clear K8
      refine wp_ret ?_
      try dsimp only [Exit.then, Exit.inBlock]
      refine (ret1 (fn := Try.f33) ha91 rfl rfl ?_)
      rw [conf_end hle (.inl rfl)] at hms
      subst hms
      exact ⟨_, _, rfl, m13.outF (i := 6) rfl, m13.below⟩
end Go.Proofs.Ytmdckdhogbbhlaa.K
