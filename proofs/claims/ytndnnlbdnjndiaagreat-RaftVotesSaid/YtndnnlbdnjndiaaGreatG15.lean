/- General laws of walks. -/
import Derived.Test.YtndnnlbdnjndiaaGreatG14
namespace Go.Proofs.YtndnnlbdnjndiaaGreat.K
open Go.ChangeShapes Go.WideShapes Go.ChangeAt Go.RowKit
set_option linter.unusedVariables false
set_option linter.unusedSimpArgs false
section
theorem inf3rw : (Tryz.prog.info? 3).map (fun i => (i.zero, i.size, i.bytes)) = some (some (.int .i64 0), 1, 8) := by kernel_rfl
theorem inf3rwo : (Tryz.prog.info? 3).map (fun i => (i.zero, i.size, i.bytes)) = some (some (.int .i64 0), 1, 8) := by kernel_rfl
theorem sz5rc : (Tryz.prog.info? 5).map (·.size) = some 1 := by kernel_rfl
theorem inf3rcf : (Tryz.prog.info? 3).map (fun i => (i.zero, i.size, i.bytes)) = some (some (.int .i64 0), 1, 8) := by kernel_rfl
theorem sz62rcf : (Tryz.prog.info? 62).map (·.size) = some 4 := by kernel_rfl

theorem chg_with {ms ed : List Int} (h : ed.getD 1 0 = 1) : canon (ms ++ [ed.getD 0 0]) = chgL ms ed := by
 unfold chgL; rw [if_pos h, ofL_canon, ofL_canon, canon_with]
theorem chg_out {ms ed : List Int} (h : ¬ ed.getD 1 0 = 1) : canon (ms.filter fun x => decide (x ≠ ed.getD 0 0)) = chgL ms ed := by
 unfold chgL; rw [if_neg h, ofL_canon, canon_out]
def EntsR (es : List (Int × Int × Int × List Int)) : Prop := ∀ e ∈ es, e.2.2.1 = 2 → entOk e.1 e.2.1 e.2.2.1 e.2.2.2 = true
set_option maxRecDepth 100000
set_option maxHeartbeats 4000000
theorem rwith_any (ms : List Int) (n : Int) (p0 : Option Addr) (c0 : Nat) (w0 : World) (h0 : Rd (fun _ => True) w0 (.slice p0 ms.length c0) (.ns .i64 ms)) (hm : ms.length ≤ 900) :
   Calls Tryz.prog 149 #[.slice p0 ms.length c0, .int .i64 n] w0 fun e w' => ∃ p c, e = .returned (.slice p (canon (ms ++ [n])).length c) ∧ Rd (New w0) w' (.slice p (canon (ms ++ [n])).length c) (.ns .i64 (canon (ms ++ [n]))) ∧ Below w0.heap.size w0 w' := by
 refine enter (fn := Tryz.f149) Tryz.func149 rfl Tryz.ntmps149 rfl (fun Az Hz => ?_)
 simp only [List.zipIdx_cons, List.zipIdx_nil, List.map_cons, List.map_nil, Nat.reduceAdd, Nat.zero_add] at Hz
 have m0 := MemOk.start (fun _ => False) w0
 refine regS Hz (.assign rfl <| .nil) ?_
 clear Hz Az; intro Az Hz
 refine wp_seq_k (fun K0 hK0 => ?_)
 refine wp_region_lit ?_
 refine goCh Hz (.move rfl .nil) ?_
 clear Hz Az; intro Az Hz
 refine wpList_plain rfl (fun K hK => ?_)
 refine e_app0N Hz m0 3 rfl rfl (h0.now' m0 rfl).ns_out.nums Tryz.underlying26 inf3rw (by decide) (by omega) rfl ?_
 clear Hz Az m0; intro p4 c4 Az w5 Hz m5
 refine hK _ _ ?_; clear hK K
 refine goCh Hz (.move rfl .nil) ?_
 clear Hz Az; intro Az Hz
 refine wpList_plain rfl (fun K hK => ?_)
 refine e_litN Hz m5 4 (k := .i64) rfl rfl Tryz.underlying26 inf3rw rfl rfl rfl rfl ?_
 clear Hz Az m5; intro g7 Az w8 Hz m8
 refine hK _ _ ?_; clear hK K
 refine wpList_plain rfl (fun K hK => ?_)
 refine e_appN Hz m8 3 rfl rfl rfl (m8.numsO (i := 4) rfl) Tryz.underlying26 inf3rw (by decide) (by simp; omega) rfl ?_
 clear Hz Az m8; intro p9 c9 Az w10 Hz m10
 refine hK _ _ ?_; clear hK K
 refine wpList_plain rfl (fun K hK => ?_)
 refine e_call Hz Tryz.func59 rfl rfl rfl rfl (rof_any _ (ms ++ [n]) _ (m10.numsO (i := 3) rfl) (by simp; omega)) ?_
 rintro e w11 ⟨u11, rfl, ho11, hb11⟩
 obtain ⟨p11, c11, hu11⟩ := ownsRow_shape ho11
 subst hu11
 have m12 := m10.newN 5 hb11 ho11
 clear m10
 clear hb11 ho11
 refine ⟨_, rfl, ?_⟩; clear Hz Az; intro Az Hz
 refine hK _ _ ?_; clear hK K
 refine goCh Hz (.assign rfl .nil) ?_
 clear Hz Az; intro Az Hz
 refine wpList_nil ?_
 refine hK0 _ _ ?_; clear hK0; try clear K0
 refine wp_ret ?_
 try dsimp only [Exit.then, Exit.inBlock]
 refine (ret1 (fn := Tryz.f149) Hz rfl rfl ?_)
 have m15 := m12.freezeN 5 rfl; clear m12
 exact ⟨_, _, rfl, m15.outF (i := 5) rfl, m15.below⟩
theorem rwithout_any (ms : List Int) (n : Int) (p0 : Option Addr) (c0 : Nat) (w0 : World) (h0 : Rd (fun _ => True) w0 (.slice p0 ms.length c0) (.ns .i64 ms)) (hm : ms.length ≤ 900) :
   Calls Tryz.prog 137 #[.slice p0 ms.length c0, .int .i64 n] w0 fun e w' => ∃ p c, e = .returned (.slice p (canon (ms.filter fun x => decide (x ≠ n))).length c) ∧ Rd (New w0) w' (.slice p (canon (ms.filter fun x => decide (x ≠ n))).length c) (.ns .i64 (canon (ms.filter fun x => decide (x ≠ n)))) ∧ Below w0.heap.size w0 w' := by
 refine enter (fn := Tryz.f137) Tryz.func137 rfl Tryz.ntmps137 rfl (fun Az Hz => ?_)
 simp only [List.zipIdx_cons, List.zipIdx_nil, List.map_cons, List.map_nil, Nat.reduceAdd, Nat.zero_add] at Hz
 have m0 := MemOk.start (fun _ => False) w0
 refine regS Hz (.assign rfl <| .nil) ?_
 clear Hz Az; intro Az Hz
 refine wp_seq_k (fun K0 hK0 => ?_)
 refine wp_region_lit ?_
 have m3 := m0.nilN 3 3 .i64
 clear m0
 refine goCh Hz (.assign rfl .nil) ?_
 clear Hz Az; intro Az Hz
 refine wpList_nil ?_
 refine hK0 _ _ ?_; clear hK0; try clear K0
 refine wp_seq_k (fun K1 hK1 => ?_)
 refine regS Hz (.assign rfl <| .nil) ?_
 clear Hz Az; intro Az Hz
 refine wp_block ?_
 refine wp_loop_ghost (fun g a w => ∃ (k : Nat) (p : Option Addr) (c : Nat), k ≤ ms.length ∧ g = ms.length - k ∧ ((ms.take k).filter fun x => decide (x ≠ n)).length ≤ k ∧ Has 28 [(0, .slice p0 ms.length c0), (1, .int .i64 n), (5, .slice p ((ms.take k).filter fun x => decide (x ≠ n)).length c), (6, .int .i64 k)] a ∧ MemOk (cn w0) w0 [(5, .num (.slice p ((ms.take k).filter fun x => decide (x ≠ n)).length c) 3 .i64 ((ms.take k).filter fun x => decide (x ≠ n)))] w) (ms.length) ?_ ?_
 · exact ⟨0, _, _, Nat.zero_le _, rfl, Nat.le_refl _, Hz.only [0, 1, 5, 6], m3.ren [(5, 3)] (by decide)⟩
 ·
  clear Hz m3
  rintro g Az w6 ⟨k, p, c, hkl, hg, hfl, Hz, m6⟩
  refine wp_seq_k (fun K2 hK2 => ?_)
  refine regS Hz (.move rfl <| .move rfl <| .len rfl Tryz.underlying26 <| .lss rfl rfl <| .nil) ?_
  clear Hz Az; intro Az Hz
  refine bool_cases Hz (t := 10) rfl ?_ ?_
  ·
   clear Hz; intro hb11 Hz
   try simp only [Q1x, Q2x, Q3x, Q4x, Q5x, Q6x, Q7x, Q8x, Q9x, Q0x, Qax, Qbx] at hb11
   have hk : k < ms.length := by omega
   refine wp_cond_true (Hz.ev (x := .tmp 10) rfl) ?_
   refine wp_skip ?_
   refine hK2 _ _ ?_; clear hK2; try clear K2
   refine wp_seq_k (fun K3 hK3 => ?_)
   refine wp_block ?_
   refine wp_seq_k (fun K4 hK4 => ?_)
   refine wp_region_lit ?_
   refine goCh Hz (.move rfl <| .move rfl <| .nil) ?_
   clear Hz Az; intro Az Hz
   obtain ⟨gx17, ox17, hp17, hl17, hrg17⟩ := h0.extN (k) hk
   cases hp17; clear hl17
   refine goCh Hz (.c rfl (fun _ h_ => y_idx h_ rfl rfl Tryz.underlying26 sz3rwo (k) rfl hk) <| .loadAt1 (hrg17 m6 rfl) (q := 0) rfl rfl rfl Tryz.underlying3 rfl <| .move rfl <| .neq rfl rfl <| .nil) ?_
   clear Hz Az; intro Az Hz
   refine wpList_nil ?_
   refine hK4 _ _ ?_; clear hK4; try clear K4
   refine bool_cases Hz (t := 18) rfl ?_ ?_
   ·
    clear Hz; intro hb22 Hz
    try simp only [Q1x, Q2x, Q3x, Q4x, Q5x, Q6x, Q7x, Q8x, Q9x, Q0x, Qax, Qbx] at hb22
    refine wp_cond_true (Hz.ev (x := .tmp 18) rfl) ?_
    replace Hz : Has 28 [(0, _), (1, _), (5, _), (6, _), (18, _)] Az := Hz.only [0, 1, 5, 6, 18]
    refine wp_region_lit ?_
    refine goCh Hz (.move rfl <| .move rfl <| .move rfl <| .nil) ?_
    clear Hz Az; intro Az Hz
    obtain ⟨gx27, ox27, hp27, hl27, hrg27⟩ := h0.extN (k) hk
    cases hp27; clear hl27
    refine goCh Hz (.c rfl (fun _ h_ => y_idx h_ rfl rfl Tryz.underlying26 sz3rwo (k) rfl hk) <| .loadAt1 (hrg27 m6 rfl) (q := 0) rfl rfl rfl Tryz.underlying3 rfl <| .nil) ?_
    clear Hz Az; intro Az Hz
    refine wpList_plain rfl (fun K hK => ?_)
    refine e_litN Hz m6 100 (k := .i64) rfl rfl Tryz.underlying26 inf3rwo rfl rfl rfl rfl ?_
    clear Hz Az m6; intro g30 Az w31 Hz m31
    refine hK _ _ ?_; clear hK K
    refine wpList_plain rfl (fun K hK => ?_)
    refine e_appN Hz m31 5 rfl rfl rfl (m31.numsO (i := 100) rfl) Tryz.underlying26 inf3rwo (by decide) (by show _ + 1 ≤ _; omega) rfl ?_
    clear Hz Az m31; intro p32 c32 Az w33 Hz m33
    refine hK _ _ ?_; clear hK K
    refine goCh Hz (.assign rfl .nil) ?_
    clear Hz Az; intro Az Hz
    refine wpList_nil ?_
    refine hK3 _ _ ?_; clear hK3; try clear K3
    replace Hz : Has 28 [(0, _), (1, _), (5, _), (6, _), (18, _)] Az := Hz.only [0, 1, 5, 6, 18]
    refine wp_region_lit ?_
    refine goCh Hz (.move rfl <| .add rfl rfl (r := ((k + 1 : Nat) : Int)) (by rw [IntWalk.i64_in _ (by omega)]; omega) <| .assign rfl <| .nil) ?_
    clear Hz Az; intro Az Hz
    refine wpList_nil ?_
    show ∃ n', n' < _ ∧ _
    have hE : ((ms.take k).filter fun x => decide (x ≠ n)) ++ [ms.getD k 0] = ((ms.take (k + 1)).filter fun x => decide (x ≠ n)) := by rw [dropn_snoc ms n k hk, if_pos hb22]
    rw [hE] at m33 Hz
    exact ⟨ms.length - (k + 1), by omega, k + 1, _, _, by omega, rfl, by rw [← hE]; rw [List.length_append]; show _ + 1 ≤ _; omega, Hz.only [0, 1, 5, 6], m33.ren [(5, 5)] (by decide)⟩
   ·
    clear Hz; intro hb22 Hz
    try simp only [Q1x, Q2x, Q3x, Q4x, Q5x, Q6x, Q7x, Q8x, Q9x, Q0x, Qax, Qbx] at hb22
    refine wp_cond_false (Hz.ev (x := .tmp 18) rfl) ?_
    refine wp_skip ?_
    refine hK3 _ _ ?_; clear hK3; try clear K3
    replace Hz : Has 28 [(0, _), (1, _), (5, _), (6, _), (18, _)] Az := Hz.only [0, 1, 5, 6, 18]
    refine wp_region_lit ?_
    refine goCh Hz (.move rfl <| .add rfl rfl (r := ((k + 1 : Nat) : Int)) (by rw [IntWalk.i64_in _ (by omega)]; omega) <| .assign rfl <| .nil) ?_
    clear Hz Az; intro Az Hz
    refine wpList_nil ?_
    show ∃ n', n' < _ ∧ _
    have hE : ((ms.take k).filter fun x => decide (x ≠ n)) = ((ms.take (k + 1)).filter fun x => decide (x ≠ n)) := by rw [dropn_snoc ms n k hk, if_neg (by have := hb22; simpa using this), List.append_nil]
    rw [hE] at m6 Hz
    exact ⟨ms.length - (k + 1), by omega, k + 1, _, _, by omega, rfl, by rw [← hE]; omega, Hz.only [0, 1, 5, 6], m6.ren [(5, 5)] (by decide)⟩
  ·
   clear Hz; intro hb11 Hz
   try simp only [Q1x, Q2x, Q3x, Q4x, Q5x, Q6x, Q7x, Q8x, Q9x, Q0x, Qax, Qbx] at hb11
   obtain rfl : k = ms.length := by omega
   rw [List.take_length] at *
   refine wp_cond_false (Hz.ev (x := .tmp 10) rfl) ?_
   refine wp_exit ?_
   refine hK1 _ _ ?_; clear hK1; try clear K1
   refine wp_seq_k (fun K5 hK5 => ?_)
   refine wp_region_lit ?_
   refine goCh Hz (.move rfl .nil) ?_
   clear Hz Az; intro Az Hz
   refine wpList_plain rfl (fun K hK => ?_)
   refine e_call Hz Tryz.func59 rfl rfl rfl rfl (rof_any _ (ms.filter fun x => decide (x ≠ n)) _ (m6.numsO (i := 5) rfl) (Nat.le_trans (List.length_filter_le _ _) (by omega))) ?_
   rintro e w45 ⟨u45, rfl, ho45, hb45⟩
   obtain ⟨p45, c45, hu45⟩ := ownsRow_shape ho45
   subst hu45
   have m46 := m6.newN 100 hb45 ho45
   clear m6
   clear hb45 ho45
   refine ⟨_, rfl, ?_⟩; clear Hz Az; intro Az Hz
   refine hK _ _ ?_; clear hK K
   refine goCh Hz (.assign rfl .nil) ?_
   clear Hz Az; intro Az Hz
   refine wpList_nil ?_
   refine hK5 _ _ ?_; clear hK5; try clear K5
   refine wp_ret ?_
   try dsimp only [Exit.then, Exit.inBlock]
   refine (ret1 (fn := Tryz.f137) Hz rfl rfl ?_)
   have m49 := m46.freezeN 100 rfl; clear m46
   exact ⟨_, _, rfl, m49.outF (i := 100) rfl, m49.below⟩
theorem rchange_yes (ms ed : List Int) (ei et ek : Int) (p0 p1 : Option Addr) (c0 c1 : Nat) (w0 : World) (h0 : Rd (fun _ => True) w0 (.slice p0 ms.length c0) (.ns .i64 ms)) (h1 : Rd (fun _ => True) w0 (.slice p1 ed.length c1) (.ns .u8 ed)) (hk2 : ek = 2) (hd2 : ed.length = 2) (hm : ms.length ≤ 900) (hdb : ByteL ed) :
   Calls Tryz.prog 127 #[.slice p0 ms.length c0, .agg #[.int .i64 ei, .int .i64 et, .int .i64 ek, .slice p1 ed.length c1]] w0 fun e w' => ∃ p c, e = .returned (.slice p (chgL ms ed).length c) ∧ Rd (New w0) w' (.slice p (chgL ms ed).length c) (.ns .i64 (chgL ms ed)) ∧ Below w0.heap.size w0 w' := by
 refine enter (fn := Tryz.f127) Tryz.func127 rfl Tryz.ntmps127 rfl (fun Az Hz => ?_)
 simp only [List.zipIdx_cons, List.zipIdx_nil, List.map_cons, List.map_nil, Nat.reduceAdd, Nat.zero_add] at Hz
 have m0 := MemOk.start (fun _ => False) w0
 have hd0 := hdb (ed.getD 0 0) (by rw [List.getD, List.getElem?_eq_getElem (by omega : 0 < ed.length)]; exact List.getElem_mem _)
 refine wp_seq_k (fun K0 hK0 => ?_)
 refine wp_region_lit ?_
 refine wpList_plain rfl (fun K hK => ?_)
 refine e_box Hz m0 3 (cs := [_, _, _, _]) rfl rfl rfl ?_
 clear Hz Az m0; intro g1 Az w2 Hz m2 hB2 hg2
 clear hB2 hg2
 refine hK _ _ ?_; clear hK K
 refine goCh Hz (.assign rfl .nil) ?_
 clear Hz Az; intro Az Hz
 refine wpList_nil ?_
 refine hK0 _ _ ?_; clear hK0; try clear K0
 refine wp_seq_k (fun K1 hK1 => ?_)
 refine wp_seq_k (fun K2 hK2 => ?_)
 refine wp_region_lit ?_
 refine goCh Hz (.fieldAddr (off := 2) rfl Tryz.underlying62 rfl (s := 0) (by kernel_rfl) rfl <| .loadB1 m2 (i := 3) rfl rfl rfl Tryz.underlying3 rfl <| .neq rfl rfl <| .move rfl <| .nil) ?_
 clear Hz Az; intro Az Hz
 refine bool_cases Hz (t := 8) rfl ?_ ?_
 · intro hb _; exact absurd hb (by simp [hk2])
 clear Hz; intro _ Hz
 refine goCh Hz (.fieldAddrZ (off := 3) rfl Tryz.underlying62 rfl (s := 0) (by kernel_rfl) rfl <| .loadB1Z m2 (i := 3) rfl rfl rfl Tryz.underlying27 rfl <| .lenZ rfl Tryz.underlying27 <| .neqZ rfl rfl <| .pickF rfl rfl <| .nil) ?_
 clear Hz Az; intro Az Hz
 refine wpList_nil ?_
 refine hK2 _ _ ?_; clear hK2; try clear K2
 refine bool_cases Hz (t := 13) rfl ?_ ?_
 · intro hb _; exact absurd hb (by simp; omega)
 clear Hz; intro _ Hz
 refine wp_cond_false (Hz.ev (x := .tmp 13) rfl) ?_
 refine wp_skip ?_
 refine hK1 _ _ ?_; clear hK1; try clear K1
 refine wp_seq_k (fun K3 hK3 => ?_)
 replace Hz : Has 34 [(0, _), (3, _), (4, _)] Az := Hz.only [0, 3, 4]
 refine wp_seq_k (fun K4 hK4 => ?_)
 refine wp_region_lit ?_
 refine goCh Hz (.fieldAddr (off := 3) rfl Tryz.underlying62 rfl (s := 0) (by kernel_rfl) rfl <| .loadB1 m2 (i := 3) rfl rfl rfl Tryz.underlying27 rfl <| .nil) ?_
 clear Hz Az; intro Az Hz
 obtain ⟨gx25, ox25, hp25, hl25, hrg25⟩ := h1.extN (1) (by omega)
 cases hp25; clear hl25
 refine goCh Hz (.c rfl (fun _ h_ => y_idx h_ rfl rfl Tryz.underlying27 sz5rc (1) rfl (by omega)) <| .loadAt1 (hrg25 m2 rfl) (q := 0) rfl rfl rfl Tryz.underlying5 rfl <| .eql rfl rfl <| .nil) ?_
 clear Hz Az; intro Az Hz
 refine wpList_nil ?_
 refine hK4 _ _ ?_; clear hK4; try clear K4
 refine bool_cases Hz (t := 19) rfl ?_ ?_
 ·
  clear Hz; intro hb29 Hz
  try simp only [Q1x, Q2x, Q3x, Q4x, Q5x, Q6x, Q7x, Q8x, Q9x, Q0x, Qax, Qbx] at hb29
  refine wp_cond_true (Hz.ev (x := .tmp 19) rfl) ?_
  refine wp_seq_k (fun K5 hK5 => ?_)
  refine wp_region_lit ?_
  refine goCh Hz (.move rfl <| .fieldAddr (off := 3) rfl Tryz.underlying62 rfl (s := 0) (by kernel_rfl) rfl <| .loadB1 m2 (i := 3) rfl rfl rfl Tryz.underlying27 rfl <| .nil) ?_
  clear Hz Az; intro Az Hz
  obtain ⟨gx37, ox37, hp37, hl37, hrg37⟩ := h1.extN (0) (by omega)
  cases hp37; clear hl37
  refine goCh Hz (.c rfl (fun _ h_ => y_idx h_ rfl rfl Tryz.underlying27 sz5rc (0) rfl (by omega)) <| .loadAt1 (hrg37 m2 rfl) (q := 0) rfl rfl rfl Tryz.underlying5 rfl <| .conv rfl Tryz.underlying5 Tryz.underlying3 (r := ed.getD 0 0) (IntWalk.i64_in _ (by omega)) <| .nil) ?_
  clear Hz Az; intro Az Hz
  refine wpList_plain rfl (fun K hK => ?_)
  refine e_call Hz Tryz.func149 rfl rfl rfl rfl (rwith_any ms (ed.getD 0 0) _ _ _ ((h0.now' m2 rfl).any) hm) ?_
  rintro e w41 ⟨p41, c41, rfl, hd41, hb41⟩
  have m42 := m2.callF 4 rfl hb41 hd41
  clear m2
  clear hb41 hd41
  refine ⟨_, rfl, ?_⟩; clear Hz Az; intro Az Hz
  refine hK _ _ ?_; clear hK K
  refine goCh Hz (.assign rfl .nil) ?_
  clear Hz Az; intro Az Hz
  refine wpList_nil ?_
  refine hK5 _ _ ?_; clear hK5; try clear K5
  refine wp_ret ?_
  try dsimp only [Exit.then, Exit.inBlock]
  refine (ret1 (fn := Tryz.f127) Hz rfl rfl ?_)
  have hE := chg_with (ms := ms) hb29
  rw [hE] at m42
  rw [hE]
  exact ⟨_, _, rfl, m42.outF (i := 4) rfl, m42.below⟩
 ·
  clear Hz; intro hb29 Hz
  try simp only [Q1x, Q2x, Q3x, Q4x, Q5x, Q6x, Q7x, Q8x, Q9x, Q0x, Qax, Qbx] at hb29
  refine wp_cond_false (Hz.ev (x := .tmp 19) rfl) ?_
  refine wp_skip ?_
  refine hK3 _ _ ?_; clear hK3; try clear K3
  refine wp_seq_k (fun K6 hK6 => ?_)
  refine wp_region_lit ?_
  refine goCh Hz (.move rfl <| .fieldAddr (off := 3) rfl Tryz.underlying62 rfl (s := 0) (by kernel_rfl) rfl <| .loadB1 m2 (i := 3) rfl rfl rfl Tryz.underlying27 rfl <| .nil) ?_
  clear Hz Az; intro Az Hz
  obtain ⟨gx52, ox52, hp52, hl52, hrg52⟩ := h1.extN (0) (by omega)
  cases hp52; clear hl52
  refine goCh Hz (.c rfl (fun _ h_ => y_idx h_ rfl rfl Tryz.underlying27 sz5rc (0) rfl (by omega)) <| .loadAt1 (hrg52 m2 rfl) (q := 0) rfl rfl rfl Tryz.underlying5 rfl <| .conv rfl Tryz.underlying5 Tryz.underlying3 (r := ed.getD 0 0) (IntWalk.i64_in _ (by omega)) <| .nil) ?_
  clear Hz Az; intro Az Hz
  refine wpList_plain rfl (fun K hK => ?_)
  refine e_call Hz Tryz.func137 rfl rfl rfl rfl (rwithout_any ms (ed.getD 0 0) _ _ _ ((h0.now' m2 rfl).any) hm) ?_
  rintro e w56 ⟨p56, c56, rfl, hd56, hb56⟩
  have m57 := m2.callF 4 rfl hb56 hd56
  clear m2
  clear hb56 hd56
  refine ⟨_, rfl, ?_⟩; clear Hz Az; intro Az Hz
  refine hK _ _ ?_; clear hK K
  refine goCh Hz (.assign rfl .nil) ?_
  clear Hz Az; intro Az Hz
  refine wpList_nil ?_
  refine hK6 _ _ ?_; clear hK6; try clear K6
  refine wp_ret ?_
  try dsimp only [Exit.then, Exit.inBlock]
  refine (ret1 (fn := Tryz.f127) Hz rfl rfl ?_)
  have hE := chg_out (ms := ms) hb29
  rw [hE] at m57
  rw [hE]
  exact ⟨_, _, rfl, m57.outF (i := 4) rfl, m57.below⟩
theorem rchange_no (ms ed : List Int) (ei et ek : Int) (p0 p1 : Option Addr) (c0 c1 : Nat) (w0 : World) (h0 : Rd (fun _ => True) w0 (.slice p0 ms.length c0) (.ns .i64 ms)) (h1 : Rd (fun _ => True) w0 (.slice p1 ed.length c1) (.ns .u8 ed)) (hno : ¬ ek = 2 ∨ ¬ ed.length = 2) :
   Calls Tryz.prog 127 #[.slice p0 ms.length c0, .agg #[.int .i64 ei, .int .i64 et, .int .i64 ek, .slice p1 ed.length c1]] w0 fun e w' => e = .returned (.slice p0 ms.length c0) ∧ Below w0.heap.size w0 w' := by
 refine enter (fn := Tryz.f127) Tryz.func127 rfl Tryz.ntmps127 rfl (fun Az Hz => ?_)
 simp only [List.zipIdx_cons, List.zipIdx_nil, List.map_cons, List.map_nil, Nat.reduceAdd, Nat.zero_add] at Hz
 have m0 := MemOk.start (fun _ => False) w0
 refine wp_seq_k (fun K0 hK0 => ?_)
 refine wp_region_lit ?_
 refine wpList_plain rfl (fun K hK => ?_)
 refine e_box Hz m0 3 (cs := [_, _, _, _]) rfl rfl rfl ?_
 clear Hz Az m0; intro g1 Az w2 Hz m2 hB2 hg2
 clear hB2 hg2
 refine hK _ _ ?_; clear hK K
 refine goCh Hz (.assign rfl .nil) ?_
 clear Hz Az; intro Az Hz
 refine wpList_nil ?_
 refine hK0 _ _ ?_; clear hK0; try clear K0
 refine wp_seq_k (fun K1 hK1 => ?_)
 refine wp_seq_k (fun K2 hK2 => ?_)
 refine wp_region_lit ?_
 refine goCh Hz (.fieldAddr (off := 2) rfl Tryz.underlying62 rfl (s := 0) (by kernel_rfl) rfl <| .loadB1 m2 (i := 3) rfl rfl rfl Tryz.underlying3 rfl <| .neq rfl rfl <| .move rfl <| .nil) ?_
 clear Hz Az; intro Az Hz
 refine bool_cases Hz (t := 8) rfl ?_ ?_
 ·
  clear Hz; intro hb12 Hz
  try simp only [Q1x, Q2x, Q3x, Q4x, Q5x, Q6x, Q7x, Q8x, Q9x, Q0x, Qax, Qbx] at hb12
  refine goCh Hz (.sk <| .sk <| .sk <| .sk <| .pickT rfl rfl <| .nil) ?_
  clear Hz Az; intro Az Hz
  refine wpList_nil ?_
  refine hK2 _ _ ?_; clear hK2; try clear K2
  refine wp_cond_true (Hz.ev (x := .tmp 13) rfl) ?_
  replace Hz : Has 34 [(0, _), (3, _), (4, _)] Az := Hz.only [0, 3, 4]
  refine regS Hz (.move rfl <| .assign rfl <| .nil) ?_
  clear Hz Az; intro Az Hz
  refine wp_ret ?_
  try dsimp only [Exit.then, Exit.inBlock]
  refine (ret1 (fn := Tryz.f127) Hz rfl rfl ?_)
  exact ⟨rfl, m2.below⟩
 ·
  clear Hz; intro hb12 Hz
  try simp only [Q1x, Q2x, Q3x, Q4x, Q5x, Q6x, Q7x, Q8x, Q9x, Q0x, Qax, Qbx] at hb12
  refine goCh Hz (.fieldAddrZ (off := 3) rfl Tryz.underlying62 rfl (s := 0) (by kernel_rfl) rfl <| .loadB1Z m2 (i := 3) rfl rfl rfl Tryz.underlying27 rfl <| .lenZ rfl Tryz.underlying27 <| .neqZ rfl rfl <| .pickF rfl rfl <| .nil) ?_
  clear Hz Az; intro Az Hz
  refine wpList_nil ?_
  refine hK2 _ _ ?_; clear hK2; try clear K2
  refine bool_cases Hz (t := 13) rfl ?_ ?_
  rotate_left
  · intro hb _; exact absurd hb (by simp at *; omega)
  clear Hz; intro _ Hz
  refine wp_cond_true (Hz.ev (x := .tmp 13) rfl) ?_
  replace Hz : Has 34 [(0, _), (3, _), (4, _)] Az := Hz.only [0, 3, 4]
  refine regS Hz (.move rfl <| .assign rfl <| .nil) ?_
  clear Hz Az; intro Az Hz
  refine wp_ret ?_
  try dsimp only [Exit.then, Exit.inBlock]
  refine (ret1 (fn := Tryz.f127) Hz rfl rfl ?_)
  exact ⟨rfl, m2.below⟩
theorem rconf_any (B : Nat) (bi bt : Int) (cf d : List Int) (es : List (Int × Int × Int × List Int)) (pc pd pl : Option Addr) (cc cd cl : Nat) (w0 : World) (i : Int) (hB : Blk w0 B 98 [.int .i64 bi, .int .i64 bt, .slice pc cf.length cc, .slice pd d.length cd, .slice pl (es.map entD).length cl]) (hl : Rd (fun _ => True) w0 (.slice pl (es.map entD).length cl) (.l 4 (es.map entD))) (hn : es.length ≤ 1000000) (hc : Rd (fun _ => True) w0 (.slice pc cf.length cc) (.ns .i64 cf)) (hcf : cf.length ≤ 900) (heb : EntsB es) (her0 : EntsR es) :
   Calls Tryz.prog 82 #[.pointer (some ⟨B, 0, none⟩), .int .i64 i] w0 fun e w' => ∃ p c, e = .returned (.slice p (confL cf es i).length c) ∧ Rd (New w0) w' (.slice p (confL cf es i).length c) (.ns .i64 (confL cf es i)) ∧ Below w0.heap.size w0 w' := by
 refine enter (fn := Tryz.f82) Tryz.func82 rfl Tryz.ntmps82 rfl (fun Az Hz => ?_)
 simp only [List.zipIdx_cons, List.zipIdx_nil, List.map_cons, List.map_nil, Nat.reduceAdd, Nat.zero_add] at Hz
 have m0 := MemOk.start (fun _ => False) w0
 refine regS Hz (.assign rfl <| .nil) ?_
 clear Hz Az; intro Az Hz
 refine wp_seq_k (fun K0 hK0 => ?_)
 refine wp_region_lit ?_
 refine goCh Hz (.move rfl <| .nilCheck rfl <| .fieldAddr (off := 0) rfl Tryz.underlying98 rfl (s := 3) (by kernel_rfl) rfl <| .fieldAddr (off := 2) rfl Tryz.underlying29 rfl (s := 0) (by kernel_rfl) rfl <| .loadX1 (hB.now m0 rfl) rfl rfl Tryz.underlying26 rfl <| .nil) ?_
 clear Hz Az; intro Az Hz
 refine wpList_plain rfl (fun K hK => ?_)
 refine e_app0N Hz m0 7 rfl rfl (hc.now' m0 rfl).ns_out.nums Tryz.underlying26 inf3rcf (by decide) (by omega) rfl ?_
 clear Hz Az m0; intro p12 c12 Az w13 Hz m13
 refine hK _ _ ?_; clear hK K
 refine goCh Hz (.assign rfl .nil) ?_
 clear Hz Az; intro Az Hz
 refine wpList_nil ?_
 refine hK0 _ _ ?_; clear hK0; try clear K0
 refine wp_seq_k (fun K1 hK1 => ?_)
 replace Hz : Has 44 [(0, _), (1, _), (4, _), (5, _)] Az := Hz.only [0, 1, 4, 5]
 refine regS Hz (.assign rfl <| .nil) ?_
 clear Hz Az; intro Az Hz
 refine wp_block ?_
 have m17 := m13.freezeN 7 rfl; clear m13
 refine wp_loop_ghost (fun g a w => ∃ (k : Nat) (ms : List Int) (p : Option Addr) (c : Nat), k ≤ es.length ∧ g = es.length - k ∧ ms = (confTo cf (es.take k)) ∧ ms.length ≤ 900 ∧ (∀ j, j < k → (es.getD j e0).1 ≤ i) ∧ Has 44 [(0, .pointer (some ⟨B, 0, none⟩)), (1, .int .i64 i), (5, .slice p ms.length c), (6, .int .i64 k)] a ∧ MemOk (cn w0) w0 [(6, .dat (.slice p ms.length c) (.ns .i64 ms))] w) (es.length) ?_ ?_
 · exact ⟨0, cf, _, _, Nat.zero_le _, rfl, rfl, hcf, (fun j hj => by omega), Hz.only [0, 1, 5, 6], m17.ren [(6, 7)] (by decide)⟩
 ·
  clear Hz m17
  rintro g Az w18 ⟨k, ms, p, c, hkl, hg, hms, hml, hle, Hz, m18⟩
  refine wp_seq_k (fun K2 hK2 => ?_)
  refine wp_seq_k (fun K3 hK3 => ?_)
  refine wp_region_lit ?_
  refine goCh Hz (.move rfl <| .move rfl <| .nilCheck rfl <| .fieldAddr (off := 4) rfl Tryz.underlying98 rfl (s := 0) (by kernel_rfl) rfl <| .loadX1 (hB.now m18 rfl) rfl rfl Tryz.underlying30 rfl <| .len rfl Tryz.underlying30 <| .lss rfl rfl <| .move rfl <| .nil) ?_
  clear Hz Az; intro Az Hz
  refine bool_cases Hz (t := 20) rfl ?_ ?_
  ·
   clear Hz; intro hb35 Hz
   try simp only [Q1x, Q2x, Q3x, Q4x, Q5x, Q6x, Q7x, Q8x, Q9x, Q0x, Qax, Qbx] at hb35
   have hk : k < es.length := by rw [List.length_map] at hb35; omega
   obtain ⟨⟨ei, et, ek, ed⟩, hes⟩ : ∃ e, es[k]? = some e := ⟨_, List.getElem?_eq_getElem hk⟩
   have hedb := heb _ (List.mem_of_getElem? hes)
   have her := her0 _ (List.mem_of_getElem? hes)
   dsimp only at hedb her
   refine goCh Hz (.moveZ rfl <| .nilCheckZ rfl <| .fieldAddrZ (off := 4) rfl Tryz.underlying98 rfl (s := 0) (by kernel_rfl) rfl <| .loadX1Z (hB.now m18 rfl) rfl rfl Tryz.underlying30 rfl <| .moveZ rfl <| .nil) ?_
   clear Hz Az; intro Az Hz
   obtain ⟨gx41, ox41, vx41, hp41, hl41, hR41, hrg41⟩ := hl.extA (k) (r := [.v (.int .i64 ei), .v (.int .i64 et), .v (.int .i64 ek), .ns .u8 ed]) (ent_get hes)
   cases hp41; clear hl41
   rcases hR41 with _ | ⟨hd41_0, _ | ⟨hd41_1, _ | ⟨hd41_2, _ | ⟨hd41_3, _ | _⟩⟩⟩⟩
   obtain rfl := hd41_0.v_out
   clear hd41_0
   obtain rfl := hd41_1.v_out
   clear hd41_1
   obtain rfl := hd41_2.v_out
   clear hd41_2
   obtain ⟨p42, c42, hv42, hw42⟩ := hd41_3.ns_shape; subst hv42
   refine goCh Hz (.g rfl rfl rfl rfl (fun _ h_ => y_idx h_ rfl rfl Tryz.underlying30 sz62rcf (k) rfl (by rw [List.length_map]; exact hk)) <| .fieldAddrQZ 0 rfl Tryz.underlying62 rfl (s := 0) (by kernel_rfl) rfl <| .loadAt1Z (hrg41 m18 rfl) (q := 0) rfl rfl rfl Tryz.underlying3 rfl <| .moveZ rfl <| .leqZ rfl rfl <| .pickT rfl rfl <| .nil) ?_
   clear Hz Az; intro Az Hz
   refine wpList_nil ?_
   refine hK3 _ _ ?_; clear hK3; try clear K3
   refine bool_cases Hz (t := 31) rfl ?_ ?_
   ·
    clear Hz; intro hb49 Hz
    try simp only [Q1x, Q2x, Q3x, Q4x, Q5x, Q6x, Q7x, Q8x, Q9x, Q0x, Qax, Qbx] at hb49
    refine wp_cond_true (Hz.ev (x := .tmp 31) rfl) ?_
    refine wp_skip ?_
    refine hK2 _ _ ?_; clear hK2; try clear K2
    refine wp_seq_k (fun K4 hK4 => ?_)
    refine wp_block ?_
    rcases Int.decEq ek 2 with hk2 | hk2
    · skip
      replace Hz : Has 44 [(0, _), (1, _), (5, _), (6, _), (20, _), (30, _), (31, _)] Az := Hz.only [0, 1, 5, 6, 20, 30, 31]
      refine wp_region_lit ?_
      refine goCh Hz (.move rfl <| .move rfl <| .nilCheck rfl <| .fieldAddr (off := 4) rfl Tryz.underlying98 rfl (s := 0) (by kernel_rfl) rfl <| .loadX1 (hB.now m18 rfl) rfl rfl Tryz.underlying30 rfl <| .move rfl <| .nil) ?_
      clear Hz Az; intro Az Hz
      obtain ⟨gx57, ox57, vx57, hp57, hl57, hR57, hrg57⟩ := hl.extA (k) (r := [.v (.int .i64 ei), .v (.int .i64 et), .v (.int .i64 ek), .ns .u8 ed]) (ent_get hes)
      cases hp57; clear hl57
      rcases hR57 with _ | ⟨hd57_0, _ | ⟨hd57_1, _ | ⟨hd57_2, _ | ⟨hd57_3, _ | _⟩⟩⟩⟩
      obtain rfl := hd57_0.v_out
      clear hd57_0
      obtain rfl := hd57_1.v_out
      clear hd57_1
      obtain rfl := hd57_2.v_out
      clear hd57_2
      obtain ⟨p58, c58, hv58, hw58⟩ := hd57_3.ns_shape; subst hv58
      refine goCh Hz (.c rfl (fun _ h_ => y_idx h_ rfl rfl Tryz.underlying30 sz62rcf (k) rfl (by rw [List.length_map]; exact hk)) <| .loadAt (hrg57 m18 rfl) rfl Tryz.underlying62 rfl sz62rcf <| .nil) ?_
      clear Hz Az; intro Az Hz
      refine wpList_plain rfl (fun K hK => ?_)
      refine e_call Hz Tryz.func127 rfl rfl rfl rfl (rchange_no ms ed ei et ek _ _ _ _ _ ((m18.rd (i := 6) rfl).any) ((hd57_3.now' m18 rfl).any) (.inl hk2)) ?_
      rintro e w61 ⟨rfl, hb61⟩
      have m62 := m18.later hb61
      clear m18
      clear hb61
      refine ⟨_, rfl, ?_⟩; clear Hz Az; intro Az Hz
      refine hK _ _ ?_; clear hK K
      refine goCh Hz (.assign rfl .nil) ?_
      clear Hz Az; intro Az Hz
      refine wpList_nil ?_
      refine hK4 _ _ ?_; clear hK4; try clear K4
      replace Hz : Has 44 [(0, _), (1, _), (5, _), (6, _), (20, _), (30, _), (31, _)] Az := Hz.only [0, 1, 5, 6, 20, 30, 31]
      refine wp_region_lit ?_
      refine goCh Hz (.move rfl <| .add rfl rfl (r := ((k + 1 : Nat) : Int)) (by rw [IntWalk.i64_in _ (by omega)]; omega) <| .assign rfl <| .nil) ?_
      clear Hz Az; intro Az Hz
      refine wpList_nil ?_
      show ∃ n', n' < _ ∧ _
      exact ⟨es.length - (k + 1), by omega, k + 1, ms, _, _, by omega, rfl, (conf_no hms hes (.inl hk2)), hml, le_snoc hle hes hb49, Hz.only [0, 1, 5, 6], m62.ren [(6, 6)] (by decide)⟩
    · skip
      have hok2 := her hk2
      replace Hz : Has 44 [(0, _), (1, _), (5, _), (6, _), (20, _), (30, _), (31, _)] Az := Hz.only [0, 1, 5, 6, 20, 30, 31]
      refine wp_region_lit ?_
      refine goCh Hz (.move rfl <| .move rfl <| .nilCheck rfl <| .fieldAddr (off := 4) rfl Tryz.underlying98 rfl (s := 0) (by kernel_rfl) rfl <| .loadX1 (hB.now m18 rfl) rfl rfl Tryz.underlying30 rfl <| .move rfl <| .nil) ?_
      clear Hz Az; intro Az Hz
      obtain ⟨gx76, ox76, vx76, hp76, hl76, hR76, hrg76⟩ := hl.extA (k) (r := [.v (.int .i64 ei), .v (.int .i64 et), .v (.int .i64 ek), .ns .u8 ed]) (ent_get hes)
      cases hp76; clear hl76
      rcases hR76 with _ | ⟨hd76_0, _ | ⟨hd76_1, _ | ⟨hd76_2, _ | ⟨hd76_3, _ | _⟩⟩⟩⟩
      obtain rfl := hd76_0.v_out
      clear hd76_0
      obtain rfl := hd76_1.v_out
      clear hd76_1
      obtain rfl := hd76_2.v_out
      clear hd76_2
      obtain ⟨p77, c77, hv77, hw77⟩ := hd76_3.ns_shape; subst hv77
      refine goCh Hz (.c rfl (fun _ h_ => y_idx h_ rfl rfl Tryz.underlying30 sz62rcf (k) rfl (by rw [List.length_map]; exact hk)) <| .loadAt (hrg76 m18 rfl) rfl Tryz.underlying62 rfl sz62rcf <| .nil) ?_
      clear Hz Az; intro Az Hz
      refine wpList_plain rfl (fun K hK => ?_)
      refine e_call Hz Tryz.func127 rfl rfl rfl rfl (rchange_yes ms ed ei et ek _ _ _ _ _ ((m18.rd (i := 6) rfl).any) ((hd76_3.now' m18 rfl).any) hk2 (entOk_two hk2 hok2) (by omega) hedb) ?_
      rintro e w80 ⟨p80, c80, rfl, hd80, hb80⟩
      have m81 := m18.callF 102 rfl hb80 hd80
      clear m18
      clear hb80 hd80
      refine ⟨_, rfl, ?_⟩; clear Hz Az; intro Az Hz
      refine hK _ _ ?_; clear hK K
      refine goCh Hz (.assign rfl .nil) ?_
      clear Hz Az; intro Az Hz
      refine wpList_nil ?_
      refine hK4 _ _ ?_; clear hK4; try clear K4
      replace Hz : Has 44 [(0, _), (1, _), (5, _), (6, _), (20, _), (30, _), (31, _)] Az := Hz.only [0, 1, 5, 6, 20, 30, 31]
      refine wp_region_lit ?_
      refine goCh Hz (.move rfl <| .add rfl rfl (r := ((k + 1 : Nat) : Int)) (by rw [IntWalk.i64_in _ (by omega)]; omega) <| .assign rfl <| .nil) ?_
      clear Hz Az; intro Az Hz
      refine wpList_nil ?_
      show ∃ n', n' < _ ∧ _
      exact ⟨es.length - (k + 1), by omega, k + 1, (chgL ms ed), _, _, by omega, rfl, (conf_yes hms hes hk2 hok2), (Nat.le_trans (chgL_len _ _) (by decide)), le_snoc hle hes hb49, Hz.only [0, 1, 5, 6], m81.ren [(6, 102)] (by decide)⟩
   ·
    clear Hz; intro hb49 Hz
    try simp only [Q1x, Q2x, Q3x, Q4x, Q5x, Q6x, Q7x, Q8x, Q9x, Q0x, Qax, Qbx] at hb49
    refine wp_cond_false (Hz.ev (x := .tmp 31) rfl) ?_
    refine wp_exit ?_
    refine hK1 _ _ ?_; clear hK1; try clear K1
    replace Hz : Has 44 [(0, _), (1, _), (5, _), (6, _), (20, _), (30, _), (31, _)] Az := Hz.only [0, 1, 5, 6, 20, 30, 31]
    refine regS Hz (.move rfl <| .assign rfl <| .nil) ?_
    clear Hz Az; intro Az Hz
    refine wp_ret ?_
    try dsimp only [Exit.then, Exit.inBlock]
    refine (ret1 (fn := Tryz.f82) Hz rfl rfl ?_)
    rw [conf_end hle (.inr ⟨hk, by rw [List.getD, hes]; show ¬ ei ≤ i; omega⟩)] at hms
    subst hms
    exact ⟨_, _, rfl, m18.outF (i := 6) rfl, m18.below⟩
  ·
   clear Hz; intro hb35 Hz
   try simp only [Q1x, Q2x, Q3x, Q4x, Q5x, Q6x, Q7x, Q8x, Q9x, Q0x, Qax, Qbx] at hb35
   obtain rfl : k = es.length := by rw [List.length_map] at hb35; omega
   refine goCh Hz (.sk <| .sk <| .sk <| .sk <| .sk <| .sk <| .sk <| .sk <| .sk <| .sk <| .pickF rfl rfl <| .nil) ?_
   clear Hz Az; intro Az Hz
   refine wpList_nil ?_
   refine hK3 _ _ ?_; clear hK3; try clear K3
   refine wp_cond_false (Hz.ev (x := .tmp 31) rfl) ?_
   refine wp_exit ?_
   refine hK1 _ _ ?_; clear hK1; try clear K1
   replace Hz : Has 44 [(0, _), (1, _), (5, _), (6, _), (20, _), (30, _), (31, _)] Az := Hz.only [0, 1, 5, 6, 20, 30, 31]
   refine regS Hz (.move rfl <| .assign rfl <| .nil) ?_
   clear Hz Az; intro Az Hz
   refine wp_ret ?_
   try dsimp only [Exit.then, Exit.inBlock]
   refine (ret1 (fn := Tryz.f82) Hz rfl rfl ?_)
   rw [conf_end hle (.inl rfl)] at hms
   subst hms
   exact ⟨_, _, rfl, m18.outF (i := 6) rfl, m18.below⟩
end
section
theorem fl62rad : flatS Tryz.prog 62 [.int .i64 0, .int .i64 0, .int .i64 0, .slice none 0 0] = true := by kernel_rfl
theorem inf5rad : (Tryz.prog.info? 5).map (fun i => (i.zero, i.size, i.bytes)) = some (some (.int .u8 0), 1, 1) := by kernel_rfl
theorem inf62rad : (Tryz.prog.info? 62).map (fun i => (i.zero, i.size, i.bytes)) = some (some (.agg #[.int .i64 0, .int .i64 0, .int .i64 0, .slice none 0 0]), 4, 48) := by kernel_rfl
theorem sz30rad : (Tryz.prog.info? 30).map (·.size) = some 1 := by kernel_rfl
def TermsOk (ls : List (Int × Int × Int × List Int)) : Prop := ∀ e ∈ ls, 0 ≤ e.2.1
theorem TermsOk.at {ls : List (Int × Int × Int × List Int)} (h : TermsOk ls) {j : Nat} (hj : j < ls.length) : 0 ≤ (ls.getD j e0).2.1 := h _ (by rw [List.getD, List.getElem?_eq_getElem hj]; exact List.getElem_mem _)
set_option maxRecDepth 100000
set_option maxHeartbeats 4000000
theorem radd_fr (X : Cx) (B : Nat) (bi bt : Int) (cf d : List Int) (es : List (Int × Int × Int × List Int)) (pc pd pl : Option Addr) (cc cd cl : Nat) (tm kd : Int) (dd : List Int) (pa : Option Addr) (ca : Nat) (w0 : World) (hbi : -1000000000000000000 ≤ bi ∧ bi ≤ 1000000000000000000) (hn : es.length ≤ 1000000) (hdd : dd.length ≤ 140737488351232) (m0 : MemOk X w0 [(1, .box B 98 [.int .i64 bi, .int .i64 bt, .slice pc cf.length cc, .slice pd d.length cd, .slice pl (es.map entD).length cl]), (2, .seg (.slice pl (es.map entD).length cl) 62 4 (es.map entD)), (3, .dat (.slice pc cf.length cc) (.ns .i64 cf)), (4, .dat (.slice pd d.length cd) (.ns .u8 d)), (5, .dat (.slice pa dd.length ca) (.ns .u8 dd))] w0) :
   Calls Tryz.prog 125 #[.pointer (some ⟨B, 0, none⟩), .int .i64 tm, .int .i64 kd, .slice pa dd.length ca] w0 fun e w' => ∃ (pl' : Option Addr) (cl' : Nat) (pr : Option Addr) (cr : Nat), e = .returned (.agg #[.int .i64 (bi + es.length + 1), .int .i64 tm, .int .i64 kd, .slice pr dd.length cr]) ∧ MemOk X w0 [(1, .box B 98 [.int .i64 bi, .int .i64 bt, .slice pc cf.length cc, .slice pd d.length cd, .slice pl' ((es ++ [(bi + es.length + 1, tm, kd, dd)]).map entD).length cl']), (2, .seg (.slice pl' ((es ++ [(bi + es.length + 1, tm, kd, dd)]).map entD).length cl') 62 4 ((es ++ [(bi + es.length + 1, tm, kd, dd)]).map entD)), (3, .dat (.slice pc cf.length cc) (.ns .i64 cf)), (4, .dat (.slice pd d.length cd) (.ns .u8 d)), (5, .dat (.slice pr dd.length cr) (.ns .u8 dd))] w' := by
 refine enter (fn := Tryz.f125) Tryz.func125 rfl Tryz.ntmps125 rfl (fun Az Hz => ?_)
 simp only [List.zipIdx_cons, List.zipIdx_nil, List.map_cons, List.map_nil, Nat.reduceAdd, Nat.zero_add] at Hz
 have hml : (es.map entD).length = es.length := List.length_map _
 refine wp_seq_k (fun K0 hK0 => ?_)
 refine wp_region_lit ?_
 refine wpList_plain rfl (fun K hK => ?_)
 refine e_alloc Hz m0 6 zc62rad rfl ?_
 clear Hz Az m0; intro g1 Az w2 Hz m2 hB2 hg2
 clear hB2 hg2
 refine hK _ _ ?_; clear hK K
 refine wpList_nil ?_
 refine hK0 _ _ ?_; clear hK0; try clear K0
 refine wp_seq_k (fun K1 hK1 => ?_)
 refine wp_region_lit ?_
 refine goCh Hz (.move rfl .nil) ?_
 clear Hz Az; intro Az Hz
 refine wpList_plain rfl (fun K hK => ?_)
 refine e_call Hz Tryz.func57 rfl rfl rfl rfl (rlast_any _ _ _ cf d es _ _ _ _ _ _ _ (m2.ok 1 _ rfl : Res.ok _ _ _ _ (.box _ _ _)).1 ((m2.ok 2 _ rfl : Res.ok _ _ _ _ (.seg _ _ _ _)).1.rd (S' := fun _ => True) (fun _ _ _ => trivial) (fun _ _ => trivial)) (by omega) (by omega)) ?_
 rintro e w5 ⟨rfl, hb5⟩
 have m6 := m2.later hb5
 clear m2
 clear hb5
 refine ⟨_, rfl, ?_⟩; clear Hz Az; intro Az Hz
 refine hK _ _ ?_; clear hK K
 refine goCh Hz (.add rfl rfl (r := bi + es.length + 1) (IntWalk.i64_in _ (by omega)) <| .move rfl <| .move rfl <| .move rfl <| .nil) ?_
 clear Hz Az; intro Az Hz
 refine wpList_plain rfl (fun K hK => ?_)
 refine e_app0M Hz m6 7 rfl rfl (m6.nums (i := 5) rfl) Tryz.underlying27 inf5rad (by decide) (by omega) rfl ?_
 clear Hz Az m6; intro p12 c12 Az w13 Hz m13
 refine hK _ _ ?_; clear hK K
 refine goCh Hz (.build rfl zc62rad fl62rad rfl (by dsimp only [setL, List.set] <;> rfl) .nil) ?_
 clear Hz Az; intro Az Hz
 refine wpList_plain rfl (fun K hK => ?_)
 refine e_alloc Hz m13 8 zc62rad rfl ?_
 clear Hz Az m13; intro g15 Az w16 Hz m16 hB16 hg16
 clear hB16 hg16
 refine hK _ _ ?_; clear hK K
 refine wpList_plain rfl (fun K hK => ?_)
 refine e_storeW Hz m16 8 rfl rfl rfl rfl rfl sz62rad ?_
 clear m16; intro w17 m17 hB17
 clear hB17
 refine hK _ _ ?_; clear hK K
 refine wpList_nil ?_
 refine hK1 _ _ ?_; clear hK1; try clear K1
 refine wp_seq_k (fun K2 hK2 => ?_)
 replace Hz : Has 30 [(0, _), (8, _), (9, _)] Az := Hz.only [0, 8, 9]
 have m19 : MemOk _ _ [(1, _), (2, _), (3, _), (4, _), (5, _), (6, _), (7, _), (8, _)] _ := m17.only [1, 2, 3, 4, 5, 6, 7, 8]; clear m17
 refine region_p 11 (B := [(1, _), (8, _)]) (m19.to ⟨il, il, trivial⟩) m19 (by kernel_rfl) (fun w20 hP20 m20 => ?_); clear m19
 refine goR hP20 [0, 1, 2, 3, 4, 6] [4, 6] 6 0 95 Hz (m20.to ⟨il, il, trivial⟩) (.move rfl <| .move rfl <| .nilCheck rfl <| .fieldAddr (off := 4) rfl Tryz.underlying98 rfl (s := 0) (by kernel_rfl) rfl <| .loadB1 hh (i := 1) rfl rfl rfl Tryz.underlying30 rfl <| .loadBR hh (i := 8) rfl rfl Tryz.underlying62 rfl sz62rad (by simp) (by dsimp only [List.drop, List.take] <;> rfl) <| .nil) ?_
 clear Hz Az; intro Az Hz
 refine d_two 5 7 rfl rfl (by kernel_rfl) rfl rfl (fun K hK => ?_) (fun K hK => ?_)
 ·
  have m27 := m20.nilS 9 62 4; clear m20
  refine e_appSA Hz m27 9 rfl rfl rfl (m27.srcS (i := 2) rfl) Tryz.underlying30 inf62rad rfl rfl (by decide) (by simp; omega) rfl ?_
  clear Hz Az m27; intro p28 c28 Az w29 Hz m29
  refine hK _ _ (fun _ => (m29.to ⟨il, il, trivial⟩)) ?_; clear hK K
  have m31 := m29.freezeN 7 rfl; clear m29
  refine stepE_only 7 rfl (by kernel_rfl) rfl (fun K hK => ?_)
  refine e_litR Hz m31 10 (mm := 4) rfl (.cons rfl rfl (.cons (.v _) (.cons (.v _) (.cons (.v _) (.cons (m31.rd (i := 7) rfl) .nil)))) <| .nil) Tryz.underlying30 inf62rad rfl rfl rfl rfl rfl ?_
  clear Hz Az m31; intro g30 Az w32 Hz m32
  refine hK _ _ (m32.to ⟨il, il, trivial⟩) ?_; clear hK K
  have m34 := m32.freezeR 10 rfl; clear m32
  refine stepE_only 8 rfl (by kernel_rfl) rfl (fun K hK => ?_)
  refine e_appSA Hz m34 9 rfl rfl rfl (m34.rd (i := 10) rfl).cells Tryz.underlying30 inf62rad rfl rfl (by decide) (by simp; omega) rfl ?_
  clear Hz Az m34; intro p33 c33 Az w35 Hz m35
  refine hK _ _ (m35.to ⟨il, il, trivial⟩) ?_; clear hK K
  refine goA hP20 [9, 10] 2 511 2047 Hz (m35.to ⟨il, il, trivial⟩) (.nilCheck rfl <| .fieldAddr (off := 4) rfl Tryz.underlying98 rfl (s := 0) (by kernel_rfl) rfl <| .nil) ?_
  clear Hz Az; intro Az Hz
  refine stepE_end 11 rfl (by kernel_rfl) rfl (by rfl) (fun K hK => ?_)
  refine e_store1 Hz m35 1 rfl rfl rfl rfl rfl sz30rad (by dsimp only [List.set] <;> rfl) ?_
  clear m35; intro w38 m38 hB38
  clear hB38
  refine hK _ _ ?_; clear hK K
  refine wpAnyE_done (by kernel_rfl) ?_ _
  refine hK2 _ _ ?_; clear hK2; try clear K2
  replace Hz : Has 30 [(8, _), (9, _)] Az := Hz.only [8, 9]
  refine wp_seq_k (fun K3 hK3 => ?_)
  refine wp_region_lit ?_
  refine goCh Hz (.loadBR m38 (i := 8) rfl rfl Tryz.underlying62 rfl sz62rad (by simp) (by dsimp only [List.drop, List.take] <;> rfl) .nil) ?_
  clear Hz Az; intro Az Hz
  refine wpList_plain rfl (fun K hK => ?_)
  refine e_storeW Hz m38 6 rfl rfl rfl rfl rfl sz62rad ?_
  clear m38; intro w42 m42 hB42
  clear hB42
  refine hK _ _ ?_; clear hK K
  refine wpList_nil ?_
  refine hK3 _ _ ?_; clear hK3; try clear K3
  refine wp_ret ?_
  try dsimp only [Exit.then, Exit.inBlock]
  refine (retC (fn := Tryz.f125) Hz m42 (i := 6) rfl rfl rfl Tryz.underlying62 rfl sz62rad ?_)
  have hE : [] ++ es.map entD ++ [[D.v (.int .i64 (bi + es.length + 1)), .v (.int .i64 tm), .v (.int .i64 kd), .ns .u8 dd]] = (es ++ [(bi + es.length + 1, tm, kd, dd)]).map entD := by rw [List.nil_append, List.map_append]; rfl
  rw [hE] at m42
  exact ⟨_, _, _, _, rfl, m42.ren [(1, 1), (2, 9), (3, 3), (4, 4), (5, 7)] (by decide)⟩
 ·
  have m44 := m20.freezeN 7 rfl; clear m20
  refine e_litR Hz m44 9 (mm := 4) rfl (.cons rfl rfl (.cons (.v _) (.cons (.v _) (.cons (.v _) (.cons (m44.rd (i := 7) rfl) .nil)))) <| .nil) Tryz.underlying30 inf62rad rfl rfl rfl rfl rfl ?_
  clear Hz Az m44; intro g43 Az w45 Hz m45
  refine hK _ _ (fun _ => (m45.to ⟨il, il, trivial⟩)) ?_; clear hK K
  have m46 := m45.nilS 10 62 4; clear m45
  refine stepE_only 5 rfl (by kernel_rfl) rfl (fun K hK => ?_)
  refine e_appSA Hz m46 10 rfl rfl rfl (m46.srcS (i := 2) rfl) Tryz.underlying30 inf62rad rfl rfl (by decide) (by simp; omega) rfl ?_
  clear Hz Az m46; intro p47 c47 Az w48 Hz m48
  refine hK _ _ (m48.to ⟨il, il, trivial⟩) ?_; clear hK K
  have m50 := m48.freezeR 9 rfl; clear m48
  refine stepE_only 8 rfl (by kernel_rfl) rfl (fun K hK => ?_)
  refine e_appSA Hz m50 10 rfl rfl rfl (m50.rd (i := 9) rfl).cells Tryz.underlying30 inf62rad rfl rfl (by decide) (by simp; omega) rfl ?_
  clear Hz Az m50; intro p49 c49 Az w51 Hz m51
  refine hK _ _ (m51.to ⟨il, il, trivial⟩) ?_; clear hK K
  refine goA hP20 [9, 10] 2 511 2047 Hz (m51.to ⟨il, il, trivial⟩) (.nilCheck rfl <| .fieldAddr (off := 4) rfl Tryz.underlying98 rfl (s := 0) (by kernel_rfl) rfl <| .nil) ?_
  clear Hz Az; intro Az Hz
  refine stepE_end 11 rfl (by kernel_rfl) rfl (by rfl) (fun K hK => ?_)
  refine e_store1 Hz m51 1 rfl rfl rfl rfl rfl sz30rad (by dsimp only [List.set] <;> rfl) ?_
  clear m51; intro w54 m54 hB54
  clear hB54
  refine hK _ _ ?_; clear hK K
  refine wpAnyE_done (by kernel_rfl) ?_ _
  refine hK2 _ _ ?_; clear hK2; try clear K2
  replace Hz : Has 30 [(8, _), (9, _)] Az := Hz.only [8, 9]
  refine wp_seq_k (fun K4 hK4 => ?_)
  refine wp_region_lit ?_
  refine goCh Hz (.loadBR m54 (i := 8) rfl rfl Tryz.underlying62 rfl sz62rad (by simp) (by dsimp only [List.drop, List.take] <;> rfl) .nil) ?_
  clear Hz Az; intro Az Hz
  refine wpList_plain rfl (fun K hK => ?_)
  refine e_storeW Hz m54 6 rfl rfl rfl rfl rfl sz62rad ?_
  clear m54; intro w58 m58 hB58
  clear hB58
  refine hK _ _ ?_; clear hK K
  refine wpList_nil ?_
  refine hK4 _ _ ?_; clear hK4; try clear K4
  refine wp_ret ?_
  try dsimp only [Exit.then, Exit.inBlock]
  refine (retC (fn := Tryz.f125) Hz m58 (i := 6) rfl rfl rfl Tryz.underlying62 rfl sz62rad ?_)
  have hE : [] ++ es.map entD ++ [[D.v (.int .i64 (bi + es.length + 1)), .v (.int .i64 tm), .v (.int .i64 kd), .ns .u8 dd]] = (es ++ [(bi + es.length + 1, tm, kd, dd)]).map entD := by rw [List.nil_append, List.map_append]; rfl
  rw [hE] at m58
  exact ⟨_, _, _, _, rfl, m58.ren [(1, 1), (2, 10), (3, 3), (4, 4), (5, 7)] (by decide)⟩
end
end Go.Proofs.YtndnnlbdnjndiaaGreat.K
