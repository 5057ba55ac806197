/- General laws of walks. -/
import Derived.Test.YtndnnlbdnjndiaaGreatG19
namespace Go.Proofs.YtndnnlbdnjndiaaGreat.K
open Go.ChangeShapes Go.WideShapes Go.ChangeAt Go.RowKit
set_option linter.unusedVariables false
set_option linter.unusedSimpArgs false
section
theorem sz3rvo : (Tryz.prog.info? 3).map (·.size) = some 1 := by kernel_rfl
theorem sz55rvo : (Tryz.prog.info? 55).map (·.size) = some 19 := by kernel_rfl

theorem sz55rqVote : (Tryz.prog.info? 55).map (·.size) = some 19 := by kernel_rfl
theorem sz46rpVote : (Tryz.prog.info? 46).map (·.size) = some 3 := by kernel_rfl
theorem sz55rpVote : (Tryz.prog.info? 55).map (·.size) = some 19 := by kernel_rfl
theorem zc46rpVote : ((Tryz.prog.info? 46).bind (·.zero)).map (·.cells.toList) = some [.slice none 0 0, .slice none 0 0, .bool false] := by kernel_rfl
theorem sz55rqVoteAny : (Tryz.prog.info? 55).map (·.size) = some 19 := by kernel_rfl
theorem sz46rpVoteAny : (Tryz.prog.info? 46).map (·.size) = some 3 := by kernel_rfl
theorem sz55rpVoteAny : (Tryz.prog.info? 55).map (·.size) = some 19 := by kernel_rfl
theorem zc46rpVoteAny : ((Tryz.prog.info? 46).bind (·.zero)).map (·.cells.toList) = some [.slice none 0 0, .slice none 0 0, .bool false] := by kernel_rfl

def voteW2 (s : RS) (f ix lt : Int) : RS :=
 let ok := voteB s f ix lt
 let s2 := if ok = true then grantS s f else s
 vRep s2 f ok
def voteOkP (s : RS) (f te : Int) (ok : Bool) : RS := if te < (dnS s te).x.te then dnS s te else voteOkS (dnS s te) f ok
theorem gr_ms1 (s : RS) (f : Int) : (grantS s f).ms = s.ms := by
 unfold grantS; dsimp only; split <;> rfl
theorem dn_ge (s : RS) (te : Int) : te ≤ (dnS s te).x.te := by
 unfold dnS; split
 · exact Int.le_refl _
 · omega
set_option maxRecDepth 100000
set_option maxHeartbeats 4000000
theorem ronVote_s (X : Cx) (R : Nat) (s : RS) (p : RP) (gm f t te ix lt co : Int) (ok : Bool) (w0 : World) (hk : ROk s) (m0 : MemOk X w0 (rfM R s p) w0) :
   Calls Tryz.prog 99 #[.pointer (some ⟨R, 0, none⟩), .agg #[.int .i64 3, .int .i64 gm, .int .i64 f, .int .i64 t, .int .i64 te, .int .i64 ix, .int .i64 lt, .int .i64 co, .bool ok, .slice none 0 0, .int .i64 0, .int .i64 0, .slice none 0 0, .slice none 0 0, .slice none 0 0, .int .i64 0, .int .i64 0, .int .i64 0, .int .i64 0]] w0 fun e w' => ∃ p', e = .returned (.tuple #[]) ∧ MemOk X w0 (rfM R (voteW2 s f ix lt) p') w' := by
 refine enter (fn := Tryz.f99) Tryz.func99 rfl Tryz.ntmps99 rfl (fun Az Hz => ?_)
 simp only [List.zipIdx_cons, List.zipIdx_nil, List.map_cons, List.map_nil, Nat.reduceAdd, Nat.zero_add] at Hz
 refine wp_seq_k (fun K0 hK0 => ?_)
 refine wp_region_lit ?_
 refine wpList_plain rfl (fun K hK => ?_)
 refine e_box Hz m0 30 (cs := [_, _, _, _, _, _, _, _, _, _, _, _, _, _, _, _, _, _, _]) rfl rfl rfl ?_
 clear Hz Az m0; intro g1 Az w2 Hz m2 hB2 hg2
 clear hB2 hg2
 refine hK _ _ ?_; clear hK K
 refine wpList_nil ?_
 refine hK0 _ _ ?_; clear hK0; try clear K0
 refine wp_seq_k (fun K1 hK1 => ?_)
 have m3 : MemOk _ _ [(1, _), (2, _), (3, _), (4, _), (5, _), (6, _), (7, _), (8, _), (30, _)] _ := m2.only [1, 2, 3, 4, 5, 6, 7, 8, 30]; clear m2
 refine region_p 19 (B := [(1, _), (2, _), (3, _), (4, _), (5, _), (6, _), (7, _), (8, _), (30, _)]) (m3.to ⟨il, il, il, il, il, il, il, il, il, trivial⟩) m3 (by kernel_rfl) (fun w4 hP4 m4 => ?_); clear m3
 refine goR hP4 [0, 1, 2, 3, 4, 5, 6, 7] [5] 8 0 255 Hz (m4.to ⟨il, il, il, il, il, il, il, il, il, trivial⟩) (.move rfl <| .nilCheck rfl <| .fieldAddr (off := 0) rfl Tryz.underlying86 rfl (s := 4) (by kernel_rfl) rfl <| .fieldAddr (off := 2) rfl Tryz.underlying81 rfl (s := 1) (by kernel_rfl) rfl <| .fieldAddr (off := 3) rfl Tryz.underlying25 rfl (s := 0) (by kernel_rfl) rfl <| .loadB1 hh (i := 1) rfl rfl rfl Tryz.underlying3 rfl <| .lss rfl rfl <| .move rfl <| .nil) ?_
 clear Hz Az; intro Az Hz
 refine bool_cases Hz (t := 12) rfl ?_ ?_
 ·
  clear Hz; intro hb13 Hz
  try simp only [Q1x, Q2x, Q3x, Q4x, Q5x, Q6x, Q7x, Q8x, Q9x, Q0x, Qax, Qbx] at hb13
  refine goA hP4 [8, 9, 10, 11, 12, 13, 14, 15, 16, 17, 18] 11 255 524287 Hz (m4.to ⟨il, il, il, il, il, il, il, il, il, trivial⟩) (.s <| .s <| .s <| .s <| .s <| .s <| .s <| .s <| .s <| .pickT rfl rfl <| .assign rfl <| .nil) ?_
  clear Hz Az; intro Az Hz
  refine wpAnyE_done (by kernel_rfl) ?_ _
  refine hK1 _ _ ?_; clear hK1; try clear K1
  refine wp_seq_k (fun K2 hK2 => ?_)
  have hC2 : ∀ (a : Act) (w : World), (voteB s f ix lt = true ∧ Has 58 [(0, .pointer (some ⟨R, 0, none⟩)), (3, .pointer (some ⟨g1, 0, none⟩))] a ∧ MemOk X w0 ((30, .box g1 55 [.int .i64 3, .int .i64 gm, .int .i64 f, .int .i64 t, .int .i64 te, .int .i64 ix, .int .i64 lt, .int .i64 co, .bool ok, .slice none 0 0, .int .i64 0, .int .i64 0, .slice none 0 0, .slice none 0 0, .slice none 0 0, .int .i64 0, .int .i64 0, .int .i64 0, .int .i64 0]) :: rfM R s p) w) → K2 a w := by
    clear Hz m4
    rintro Az w25 ⟨hv, Hz, m25⟩
    refine hK2 _ _ ?_; clear hK2; try clear K2
    refine wp_seq_k (fun K3 hK3 => ?_)
    have hC3 : ∀ (a : Act) (w : World), (∃ (s3 : RS) (p3 : RP), withX s3 { s3.x with si := 0 } = grantS s f ∧ Has 58 [(0, .pointer (some ⟨R, 0, none⟩)), (3, .pointer (some ⟨g1, 0, none⟩))] a ∧ MemOk X w0 ((30, .box g1 55 [.int .i64 3, .int .i64 gm, .int .i64 f, .int .i64 t, .int .i64 te, .int .i64 ix, .int .i64 lt, .int .i64 co, .bool ok, .slice none 0 0, .int .i64 0, .int .i64 0, .slice none 0 0, .slice none 0 0, .slice none 0 0, .int .i64 0, .int .i64 0, .int .i64 0, .int .i64 0]) :: rfM R s3 p3) w) → K3 a w := by
      clear Hz m25
      rintro Az w26 ⟨s3, p3, h3, Hz, m26⟩
      refine hK3 _ _ ?_; clear hK3; try clear K3
      refine wp_seq_k (fun K4 hK4 => ?_)
      refine wp_region_lit ?_
      refine goCh Hz (.move rfl <| .nilCheck rfl <| .fieldAddr (off := 24) rfl Tryz.underlying86 rfl (s := 0) (by kernel_rfl) rfl <| .nil) ?_
      clear Hz Az; intro Az Hz
      refine wpList_plain rfl (fun K hK => ?_)
      refine e_store1 Hz m26 1 rfl rfl rfl rfl rfl sz3rvo (by dsimp only [List.set] <;> rfl) ?_
      clear m26; intro w33 m33 hB33
      clear hB33
      refine hK _ _ ?_; clear hK K
      refine wpList_nil ?_
      refine hK4 _ _ ?_; clear hK4; try clear K4
      refine wp_region_lit ?_
      refine goCh Hz (.move rfl <| .loadBR m33 (i := 30) rfl rfl Tryz.underlying55 rfl sz55rvo (by simp) (by dsimp only [List.drop, List.take] <;> rfl) <| .nil) ?_
      clear Hz Az; intro Az Hz
      refine wpList_plain rfl (fun K hK => ?_)
      refine e_call Hz Tryz.func139 rfl rfl rfl rfl (rreply_s _ R (withX s3 { s3.x with si := 0 }) p3 ⟨3, gm, f, t, te, ix, lt, co, ok, [], 0, 0, [], [], [], 0, 0, 0, 0⟩ 4 true 0 none none none none 0 0 0 0 0 0 0 0 _ (by rw [h3, gr_ms1]; have := hk.ms; omega) (m33.into [(1, 1), (2, 2), (3, 3), (4, 4), (5, 5), (6, 6), (7, 7), (8, 8)] (by decide) rfl)) ?_
      rintro e w36 ⟨p9, rfl, hm36⟩
      have mx36 := m33.back hm36 [(1, 1), (2, 2), (3, 3), (4, 4), (5, 5), (6, 6), (7, 7), (8, 8)] (by decide); clear hm36 m33
      have m36 : MemOk _ _ [(1, _), (2, _), (3, _), (4, _), (5, _), (6, _), (7, _), (8, _), (30, _)] _ := mx36.only [1, 2, 3, 4, 5, 6, 7, 8, 30]; clear mx36
      refine ⟨_, rfl, ?_⟩; clear Hz Az; intro Az Hz
      refine hK _ _ ?_; clear hK K
      refine wpList_nil ?_
      try dsimp only [Exit.then, Exit.inBlock]
      try refine out_here ?_
      refine (ret0 (fn := Tryz.f99) Hz rfl ?_)
      rw [show voteW2 s f ix lt = replyS (withX s3 { s3.x with si := 0 }) f 4 true 0 from by unfold voteW2; rw [hv, h3]; rfl]
      exact ⟨p9, rfl, m36.only [1, 2, 3, 4, 5, 6, 7, 8]⟩
    refine wp_seq_k (fun K5 hK5 => ?_)
    have m38 : MemOk _ _ [(1, _), (2, _), (3, _), (4, _), (5, _), (6, _), (7, _), (8, _), (30, _)] _ := m25.only [1, 2, 3, 4, 5, 6, 7, 8, 30]; clear m25
    refine region_p 9 (B := [(1, _), (2, _), (3, _), (4, _), (5, _), (6, _), (7, _), (8, _), (30, _)]) (m38.to ⟨il, il, il, il, il, il, il, il, il, trivial⟩) m38 (by kernel_rfl) (fun w39 hP39 m39 => ?_); clear m38
    refine goR hP39 [0, 1, 2, 3, 4, 5, 6, 7, 8] [5, 7] 9 0 511 Hz (m39.to ⟨il, il, il, il, il, il, il, il, il, trivial⟩) (.move rfl <| .nilCheck rfl <| .fieldAddr (off := 0) rfl Tryz.underlying86 rfl (s := 4) (by kernel_rfl) rfl <| .fieldAddr (off := 2) rfl Tryz.underlying81 rfl (s := 1) (by kernel_rfl) rfl <| .fieldAddr (off := 3) rfl Tryz.underlying25 rfl (s := 0) (by kernel_rfl) rfl <| .loadB1 hh (i := 1) rfl rfl rfl Tryz.underlying3 rfl <| .fieldAddr (off := 2) rfl Tryz.underlying55 rfl (s := 0) (by kernel_rfl) rfl <| .loadB1 hh (i := 30) rfl rfl rfl Tryz.underlying3 rfl <| .neq rfl rfl <| .nil) ?_
    clear Hz Az; intro Az Hz
    refine wpAnyE_done (by kernel_rfl) ?_ _
    refine hK5 _ _ ?_; clear hK5; try clear K5
    refine bool_cases Hz (t := 42) rfl ?_ ?_
    ·
     clear Hz; intro hb49 Hz
     try simp only [Q1x, Q2x, Q3x, Q4x, Q5x, Q6x, Q7x, Q8x, Q9x, Q0x, Qax, Qbx] at hb49
     refine wp_cond_true (Hz.ev (x := .tmp 42) rfl) ?_
     replace Hz : Has 58 [(0, _), (3, _), (42, _)] Az := Hz.only [0, 3, 42]
     refine wp_seq_k (fun K6 hK6 => ?_)
     refine wp_region_lit ?_
     refine goCh Hz (.move rfl <| .fieldAddr (off := 2) rfl Tryz.underlying55 rfl (s := 0) (by kernel_rfl) rfl <| .loadB1 m39 (i := 30) rfl rfl rfl Tryz.underlying3 rfl <| .nilCheck rfl <| .fieldAddr (off := 0) rfl Tryz.underlying86 rfl (s := 4) (by kernel_rfl) rfl <| .fieldAddr (off := 2) rfl Tryz.underlying81 rfl (s := 1) (by kernel_rfl) rfl <| .fieldAddr (off := 3) rfl Tryz.underlying25 rfl (s := 0) (by kernel_rfl) rfl <| .nil) ?_
     clear Hz Az; intro Az Hz
     refine wpList_plain rfl (fun K hK => ?_)
     refine e_store1 Hz m39 1 rfl rfl rfl rfl rfl sz3rvo (by dsimp only [List.set] <;> rfl) ?_
     clear m39; intro w65 m65 hB65
     clear hB65
     refine hK _ _ ?_; clear hK K
     refine wpList_nil ?_
     refine hK6 _ _ ?_; clear hK6; try clear K6
     replace Hz : Has 58 [(0, _), (3, _), (42, _)] Az := Hz.only [0, 3, 42]
     refine wp_region_lit ?_
     refine goCh Hz (.move rfl .nil) ?_
     clear Hz Az; intro Az Hz
     refine wpList_plain rfl (fun K hK => ?_)
     refine e_call Hz Tryz.func135 rfl rfl rfl rfl (rsaveHard_s _ R (withX s { s.x with vo := f }) p _ (by have := hk.rs; show s.rs.length ≤ 1000000; omega) (m65.into [(1, 1), (2, 2), (3, 3), (4, 4), (5, 5), (6, 6), (7, 7), (8, 8)] (by decide) rfl)) ?_
     rintro e w68 ⟨p3, rfl, hm68⟩
     have mx68 := m65.back hm68 [(1, 1), (2, 2), (3, 3), (4, 4), (5, 5), (6, 6), (7, 7), (8, 8)] (by decide); clear hm68 m65
     have m68 : MemOk _ _ [(1, _), (2, _), (3, _), (4, _), (5, _), (6, _), (7, _), (8, _), (30, _)] _ := mx68.only [1, 2, 3, 4, 5, 6, 7, 8, 30]; clear mx68
     refine ⟨_, rfl, ?_⟩; clear Hz Az; intro Az Hz
     refine hK _ _ ?_; clear hK K
     refine wpList_nil ?_
     show K3 _ _
     exact hC3 _ _ ⟨hardS (withX s { s.x with vo := f }), p3, gr_b s f hb49, Hz.only [0, 3], m68.only [30, 1, 2, 3, 4, 5, 6, 7, 8]⟩
    ·
     clear Hz; intro hb49 Hz
     try simp only [Q1x, Q2x, Q3x, Q4x, Q5x, Q6x, Q7x, Q8x, Q9x, Q0x, Qax, Qbx] at hb49
     refine wp_cond_false (Hz.ev (x := .tmp 42) rfl) ?_
     refine wp_skip ?_
     show K3 _ _
     exact hC3 _ _ ⟨s, p, gr_a s f hb49, Hz.only [0, 3], m39.only [30, 1, 2, 3, 4, 5, 6, 7, 8]⟩
  replace Hz : Has 58 [(0, _), (3, _), (12, _), (4, _)] Az := Hz.only [0, 3, 12, 4]
  refine wp_seq_k (fun K7 hK7 => ?_)
  refine wp_region_lit ?_
  refine goCh Hz (.move rfl <| .not rfl <| .move rfl <| .moveZ rfl <| .loadBRZ m4 (i := 30) rfl rfl Tryz.underlying55 rfl sz55rvo (by simp) (by dsimp only [List.drop, List.take] <;> rfl) <| .nil) ?_
  clear Hz Az; intro Az Hz
  refine st_ge Hz rfl rfl rfl rfl (fun K hK => ?_)
  refine e_call Hz Tryz.func138 rfl rfl rfl rfl (rnewer_s R s p _ (rfM_is s p (m4.into [(1, 1), (2, 2), (3, 3), (4, 4), (5, 5), (6, 6), (7, 7), (8, 8)] (by decide) rfl)) hk.l 3 gm f t te ix lt co ok) ?_
  rintro e w81 ⟨rfl, hb81⟩
  have m82 := m4.later hb81
  clear m4
  clear hb81
  refine ⟨_, rfl, ?_⟩; clear Hz Az; intro Az Hz
  refine hK _ _ ?_; clear hK K
  refine goCh Hz (.notZ rfl <| .pickF rfl rfl <| .nil) ?_
  clear Hz Az; intro Az Hz
  refine wpList_nil ?_
  refine hK7 _ _ ?_; clear hK7; try clear K7
  refine bool_cases Hz (t := 30) rfl ?_ ?_
  ·
   clear Hz; intro hb86 Hz
   try simp only [Q1x, Q2x, Q3x, Q4x, Q5x, Q6x, Q7x, Q8x, Q9x, Q0x, Qax, Qbx] at hb86
   refine wp_cond_true (Hz.ev (x := .tmp 30) rfl) ?_
   replace Hz : Has 58 [(0, _), (3, _), (12, _), (25, _), (30, _)] Az := Hz.only [0, 3, 12, 25, 30]
   refine wp_seq_k (fun K8 hK8 => ?_)
   refine wp_region_lit ?_
   refine goCh Hz (.move rfl <| .loadBR m82 (i := 30) rfl rfl Tryz.underlying55 rfl sz55rvo (by simp) (by dsimp only [List.drop, List.take] <;> rfl) <| .nil) ?_
   clear Hz Az; intro Az Hz
   refine wpList_plain rfl (fun K hK => ?_)
   refine e_call Hz Tryz.func139 rfl rfl rfl rfl (rreply_s _ R s p ⟨3, gm, f, t, te, ix, lt, co, ok, [], 0, 0, [], [], [], 0, 0, 0, 0⟩ 4 false 0 none none none none 0 0 0 0 0 0 0 0 _ (by have := hk.ms; omega) (m82.into [(1, 1), (2, 2), (3, 3), (4, 4), (5, 5), (6, 6), (7, 7), (8, 8)] (by decide) rfl)) ?_
   rintro e w92 ⟨p9, rfl, hm92⟩
   have mx92 := m82.back hm92 [(1, 1), (2, 2), (3, 3), (4, 4), (5, 5), (6, 6), (7, 7), (8, 8)] (by decide); clear hm92 m82
   have m92 : MemOk _ _ [(1, _), (2, _), (3, _), (4, _), (5, _), (6, _), (7, _), (8, _), (30, _)] _ := mx92.only [1, 2, 3, 4, 5, 6, 7, 8, 30]; clear mx92
   refine ⟨_, rfl, ?_⟩; clear Hz Az; intro Az Hz
   refine hK _ _ ?_; clear hK K
   refine wpList_nil ?_
   refine hK8 _ _ ?_; clear hK8; try clear K8
   refine wp_ret ?_
   try dsimp only [Exit.then, Exit.inBlock]
   refine (ret0r (fn := Tryz.f99) Hz rfl ?_)
   rw [show voteW2 s f ix lt = replyS s f 4 false 0 from by unfold voteW2; rw [(vb_a s f ix lt hb13).symm.trans hb86]; rfl]
   exact ⟨p9, rfl, m92.only [1, 2, 3, 4, 5, 6, 7, 8]⟩
  ·
   clear Hz; intro hb86 Hz
   try simp only [Q1x, Q2x, Q3x, Q4x, Q5x, Q6x, Q7x, Q8x, Q9x, Q0x, Qax, Qbx] at hb86
   refine wp_cond_false (Hz.ev (x := .tmp 30) rfl) ?_
   refine wp_skip ?_
   show K2 _ _
   exact hC2 _ _ ⟨(vb_a s f ix lt hb13).symm.trans hb86, Hz.only [0, 3], m82.ren [(30, 30), (1, 1), (2, 2), (3, 3), (4, 4), (5, 5), (6, 6), (7, 7), (8, 8)] (by decide)⟩
 ·
  clear Hz; intro hb13 Hz
  try simp only [Q1x, Q2x, Q3x, Q4x, Q5x, Q6x, Q7x, Q8x, Q9x, Q0x, Qax, Qbx] at hb13
  refine goR hP4 [8, 9, 10, 11, 12, 13, 14, 15, 16, 17, 18] [13, 15] 11 255 524287 Hz (m4.to ⟨il, il, il, il, il, il, il, il, il, trivial⟩) (.move rfl <| .nilCheck rfl <| .fieldAddr (off := 0) rfl Tryz.underlying86 rfl (s := 4) (by kernel_rfl) rfl <| .fieldAddr (off := 2) rfl Tryz.underlying81 rfl (s := 1) (by kernel_rfl) rfl <| .fieldAddr (off := 3) rfl Tryz.underlying25 rfl (s := 0) (by kernel_rfl) rfl <| .loadB1 hh (i := 1) rfl rfl rfl Tryz.underlying3 rfl <| .fieldAddr (off := 2) rfl Tryz.underlying55 rfl (s := 0) (by kernel_rfl) rfl <| .loadB1 hh (i := 30) rfl rfl rfl Tryz.underlying3 rfl <| .eql rfl rfl <| .pickF rfl rfl <| .assign rfl <| .nil) ?_
  clear Hz Az; intro Az Hz
  refine wpAnyE_done (by kernel_rfl) ?_ _
  refine hK1 _ _ ?_; clear hK1; try clear K1
  refine wp_seq_k (fun K9 hK9 => ?_)
  have hC9 : ∀ (a : Act) (w : World), (voteB s f ix lt = true ∧ Has 58 [(0, .pointer (some ⟨R, 0, none⟩)), (3, .pointer (some ⟨g1, 0, none⟩))] a ∧ MemOk X w0 ((30, .box g1 55 [.int .i64 3, .int .i64 gm, .int .i64 f, .int .i64 t, .int .i64 te, .int .i64 ix, .int .i64 lt, .int .i64 co, .bool ok, .slice none 0 0, .int .i64 0, .int .i64 0, .slice none 0 0, .slice none 0 0, .slice none 0 0, .int .i64 0, .int .i64 0, .int .i64 0, .int .i64 0]) :: rfM R s p) w) → K9 a w := by
    clear Hz m4
    rintro Az w105 ⟨hv, Hz, m105⟩
    refine hK9 _ _ ?_; clear hK9; try clear K9
    refine wp_seq_k (fun K10 hK10 => ?_)
    have hC10 : ∀ (a : Act) (w : World), (∃ (s3 : RS) (p3 : RP), withX s3 { s3.x with si := 0 } = grantS s f ∧ Has 58 [(0, .pointer (some ⟨R, 0, none⟩)), (3, .pointer (some ⟨g1, 0, none⟩))] a ∧ MemOk X w0 ((30, .box g1 55 [.int .i64 3, .int .i64 gm, .int .i64 f, .int .i64 t, .int .i64 te, .int .i64 ix, .int .i64 lt, .int .i64 co, .bool ok, .slice none 0 0, .int .i64 0, .int .i64 0, .slice none 0 0, .slice none 0 0, .slice none 0 0, .int .i64 0, .int .i64 0, .int .i64 0, .int .i64 0]) :: rfM R s3 p3) w) → K10 a w := by
      clear Hz m105
      rintro Az w106 ⟨s3, p3, h3, Hz, m106⟩
      refine hK10 _ _ ?_; clear hK10; try clear K10
      refine wp_seq_k (fun K11 hK11 => ?_)
      refine wp_region_lit ?_
      refine goCh Hz (.move rfl <| .nilCheck rfl <| .fieldAddr (off := 24) rfl Tryz.underlying86 rfl (s := 0) (by kernel_rfl) rfl <| .nil) ?_
      clear Hz Az; intro Az Hz
      refine wpList_plain rfl (fun K hK => ?_)
      refine e_store1 Hz m106 1 rfl rfl rfl rfl rfl sz3rvo (by dsimp only [List.set] <;> rfl) ?_
      clear m106; intro w113 m113 hB113
      clear hB113
      refine hK _ _ ?_; clear hK K
      refine wpList_nil ?_
      refine hK11 _ _ ?_; clear hK11; try clear K11
      refine wp_region_lit ?_
      refine goCh Hz (.move rfl <| .loadBR m113 (i := 30) rfl rfl Tryz.underlying55 rfl sz55rvo (by simp) (by dsimp only [List.drop, List.take] <;> rfl) <| .nil) ?_
      clear Hz Az; intro Az Hz
      refine wpList_plain rfl (fun K hK => ?_)
      refine e_call Hz Tryz.func139 rfl rfl rfl rfl (rreply_s _ R (withX s3 { s3.x with si := 0 }) p3 ⟨3, gm, f, t, te, ix, lt, co, ok, [], 0, 0, [], [], [], 0, 0, 0, 0⟩ 4 true 0 none none none none 0 0 0 0 0 0 0 0 _ (by rw [h3, gr_ms1]; have := hk.ms; omega) (m113.into [(1, 1), (2, 2), (3, 3), (4, 4), (5, 5), (6, 6), (7, 7), (8, 8)] (by decide) rfl)) ?_
      rintro e w116 ⟨p9, rfl, hm116⟩
      have mx116 := m113.back hm116 [(1, 1), (2, 2), (3, 3), (4, 4), (5, 5), (6, 6), (7, 7), (8, 8)] (by decide); clear hm116 m113
      have m116 : MemOk _ _ [(1, _), (2, _), (3, _), (4, _), (5, _), (6, _), (7, _), (8, _), (30, _)] _ := mx116.only [1, 2, 3, 4, 5, 6, 7, 8, 30]; clear mx116
      refine ⟨_, rfl, ?_⟩; clear Hz Az; intro Az Hz
      refine hK _ _ ?_; clear hK K
      refine wpList_nil ?_
      try dsimp only [Exit.then, Exit.inBlock]
      try refine out_here ?_
      refine (ret0 (fn := Tryz.f99) Hz rfl ?_)
      rw [show voteW2 s f ix lt = replyS (withX s3 { s3.x with si := 0 }) f 4 true 0 from by unfold voteW2; rw [hv, h3]; rfl]
      exact ⟨p9, rfl, m116.only [1, 2, 3, 4, 5, 6, 7, 8]⟩
    refine wp_seq_k (fun K12 hK12 => ?_)
    have m118 : MemOk _ _ [(1, _), (2, _), (3, _), (4, _), (5, _), (6, _), (7, _), (8, _), (30, _)] _ := m105.only [1, 2, 3, 4, 5, 6, 7, 8, 30]; clear m105
    refine region_p 9 (B := [(1, _), (2, _), (3, _), (4, _), (5, _), (6, _), (7, _), (8, _), (30, _)]) (m118.to ⟨il, il, il, il, il, il, il, il, il, trivial⟩) m118 (by kernel_rfl) (fun w119 hP119 m119 => ?_); clear m118
    refine goR hP119 [0, 1, 2, 3, 4, 5, 6, 7, 8] [5, 7] 9 0 511 Hz (m119.to ⟨il, il, il, il, il, il, il, il, il, trivial⟩) (.move rfl <| .nilCheck rfl <| .fieldAddr (off := 0) rfl Tryz.underlying86 rfl (s := 4) (by kernel_rfl) rfl <| .fieldAddr (off := 2) rfl Tryz.underlying81 rfl (s := 1) (by kernel_rfl) rfl <| .fieldAddr (off := 3) rfl Tryz.underlying25 rfl (s := 0) (by kernel_rfl) rfl <| .loadB1 hh (i := 1) rfl rfl rfl Tryz.underlying3 rfl <| .fieldAddr (off := 2) rfl Tryz.underlying55 rfl (s := 0) (by kernel_rfl) rfl <| .loadB1 hh (i := 30) rfl rfl rfl Tryz.underlying3 rfl <| .neq rfl rfl <| .nil) ?_
    clear Hz Az; intro Az Hz
    refine wpAnyE_done (by kernel_rfl) ?_ _
    refine hK12 _ _ ?_; clear hK12; try clear K12
    refine bool_cases Hz (t := 42) rfl ?_ ?_
    ·
     clear Hz; intro hb129 Hz
     try simp only [Q1x, Q2x, Q3x, Q4x, Q5x, Q6x, Q7x, Q8x, Q9x, Q0x, Qax, Qbx] at hb129
     refine wp_cond_true (Hz.ev (x := .tmp 42) rfl) ?_
     replace Hz : Has 58 [(0, _), (3, _), (42, _)] Az := Hz.only [0, 3, 42]
     refine wp_seq_k (fun K13 hK13 => ?_)
     refine wp_region_lit ?_
     refine goCh Hz (.move rfl <| .fieldAddr (off := 2) rfl Tryz.underlying55 rfl (s := 0) (by kernel_rfl) rfl <| .loadB1 m119 (i := 30) rfl rfl rfl Tryz.underlying3 rfl <| .nilCheck rfl <| .fieldAddr (off := 0) rfl Tryz.underlying86 rfl (s := 4) (by kernel_rfl) rfl <| .fieldAddr (off := 2) rfl Tryz.underlying81 rfl (s := 1) (by kernel_rfl) rfl <| .fieldAddr (off := 3) rfl Tryz.underlying25 rfl (s := 0) (by kernel_rfl) rfl <| .nil) ?_
     clear Hz Az; intro Az Hz
     refine wpList_plain rfl (fun K hK => ?_)
     refine e_store1 Hz m119 1 rfl rfl rfl rfl rfl sz3rvo (by dsimp only [List.set] <;> rfl) ?_
     clear m119; intro w145 m145 hB145
     clear hB145
     refine hK _ _ ?_; clear hK K
     refine wpList_nil ?_
     refine hK13 _ _ ?_; clear hK13; try clear K13
     replace Hz : Has 58 [(0, _), (3, _), (42, _)] Az := Hz.only [0, 3, 42]
     refine wp_region_lit ?_
     refine goCh Hz (.move rfl .nil) ?_
     clear Hz Az; intro Az Hz
     refine wpList_plain rfl (fun K hK => ?_)
     refine e_call Hz Tryz.func135 rfl rfl rfl rfl (rsaveHard_s _ R (withX s { s.x with vo := f }) p _ (by have := hk.rs; show s.rs.length ≤ 1000000; omega) (m145.into [(1, 1), (2, 2), (3, 3), (4, 4), (5, 5), (6, 6), (7, 7), (8, 8)] (by decide) rfl)) ?_
     rintro e w148 ⟨p3, rfl, hm148⟩
     have mx148 := m145.back hm148 [(1, 1), (2, 2), (3, 3), (4, 4), (5, 5), (6, 6), (7, 7), (8, 8)] (by decide); clear hm148 m145
     have m148 : MemOk _ _ [(1, _), (2, _), (3, _), (4, _), (5, _), (6, _), (7, _), (8, _), (30, _)] _ := mx148.only [1, 2, 3, 4, 5, 6, 7, 8, 30]; clear mx148
     refine ⟨_, rfl, ?_⟩; clear Hz Az; intro Az Hz
     refine hK _ _ ?_; clear hK K
     refine wpList_nil ?_
     show K10 _ _
     exact hC10 _ _ ⟨hardS (withX s { s.x with vo := f }), p3, gr_b s f hb129, Hz.only [0, 3], m148.only [30, 1, 2, 3, 4, 5, 6, 7, 8]⟩
    ·
     clear Hz; intro hb129 Hz
     try simp only [Q1x, Q2x, Q3x, Q4x, Q5x, Q6x, Q7x, Q8x, Q9x, Q0x, Qax, Qbx] at hb129
     refine wp_cond_false (Hz.ev (x := .tmp 42) rfl) ?_
     refine wp_skip ?_
     show K10 _ _
     exact hC10 _ _ ⟨s, p, gr_a s f hb129, Hz.only [0, 3], m119.only [30, 1, 2, 3, 4, 5, 6, 7, 8]⟩
  replace Hz : Has 58 [(0, _), (3, _), (12, _), (4, _)] Az := Hz.only [0, 3, 12, 4]
  refine wp_seq_k (fun K14 hK14 => ?_)
  refine wp_region_lit ?_
  refine goCh Hz (.move rfl <| .not rfl <| .move rfl <| .nil) ?_
  clear Hz Az; intro Az Hz
  refine bool_cases Hz (t := 25) rfl ?_ ?_
  ·
   clear Hz; intro hb157 Hz
   try simp only [Q1x, Q2x, Q3x, Q4x, Q5x, Q6x, Q7x, Q8x, Q9x, Q0x, Qax, Qbx] at hb157
   refine goCh Hz (.sk <| .sk <| .sk <| .sk <| .pickT rfl rfl <| .nil) ?_
   clear Hz Az; intro Az Hz
   refine wpList_nil ?_
   refine hK14 _ _ ?_; clear hK14; try clear K14
   refine wp_cond_true (Hz.ev (x := .tmp 30) rfl) ?_
   replace Hz : Has 58 [(0, _), (3, _), (12, _), (25, _), (30, _)] Az := Hz.only [0, 3, 12, 25, 30]
   refine wp_seq_k (fun K15 hK15 => ?_)
   refine wp_region_lit ?_
   refine goCh Hz (.move rfl <| .loadBR m4 (i := 30) rfl rfl Tryz.underlying55 rfl sz55rvo (by simp) (by dsimp only [List.drop, List.take] <;> rfl) <| .nil) ?_
   clear Hz Az; intro Az Hz
   refine wpList_plain rfl (fun K hK => ?_)
   refine e_call Hz Tryz.func139 rfl rfl rfl rfl (rreply_s _ R s p ⟨3, gm, f, t, te, ix, lt, co, ok, [], 0, 0, [], [], [], 0, 0, 0, 0⟩ 4 false 0 none none none none 0 0 0 0 0 0 0 0 _ (by have := hk.ms; omega) (m4.into [(1, 1), (2, 2), (3, 3), (4, 4), (5, 5), (6, 6), (7, 7), (8, 8)] (by decide) rfl)) ?_
   rintro e w168 ⟨p9, rfl, hm168⟩
   have mx168 := m4.back hm168 [(1, 1), (2, 2), (3, 3), (4, 4), (5, 5), (6, 6), (7, 7), (8, 8)] (by decide); clear hm168 m4
   have m168 : MemOk _ _ [(1, _), (2, _), (3, _), (4, _), (5, _), (6, _), (7, _), (8, _), (30, _)] _ := mx168.only [1, 2, 3, 4, 5, 6, 7, 8, 30]; clear mx168
   refine ⟨_, rfl, ?_⟩; clear Hz Az; intro Az Hz
   refine hK _ _ ?_; clear hK K
   refine wpList_nil ?_
   refine hK15 _ _ ?_; clear hK15; try clear K15
   refine wp_ret ?_
   try dsimp only [Exit.then, Exit.inBlock]
   refine (ret0r (fn := Tryz.f99) Hz rfl ?_)
   rw [show voteW2 s f ix lt = replyS s f 4 false 0 from by unfold voteW2; rw [(vb_c s f ix lt hb13 hb157).symm]; rfl]
   exact ⟨p9, rfl, m168.only [1, 2, 3, 4, 5, 6, 7, 8]⟩
  ·
   clear Hz; intro hb157 Hz
   try simp only [Q1x, Q2x, Q3x, Q4x, Q5x, Q6x, Q7x, Q8x, Q9x, Q0x, Qax, Qbx] at hb157
   refine goCh Hz (.moveZ rfl <| .loadBRZ m4 (i := 30) rfl rfl Tryz.underlying55 rfl sz55rvo (by simp) (by dsimp only [List.drop, List.take] <;> rfl) <| .nil) ?_
   clear Hz Az; intro Az Hz
   refine st_ge Hz rfl rfl rfl rfl (fun K hK => ?_)
   refine e_call Hz Tryz.func138 rfl rfl rfl rfl (rnewer_s R s p _ (rfM_is s p (m4.into [(1, 1), (2, 2), (3, 3), (4, 4), (5, 5), (6, 6), (7, 7), (8, 8)] (by decide) rfl)) hk.l 3 gm f t te ix lt co ok) ?_
   rintro e w172 ⟨rfl, hb172⟩
   have m173 := m4.later hb172
   clear m4
   clear hb172
   refine ⟨_, rfl, ?_⟩; clear Hz Az; intro Az Hz
   refine hK _ _ ?_; clear hK K
   refine goCh Hz (.notZ rfl <| .pickF rfl rfl <| .nil) ?_
   clear Hz Az; intro Az Hz
   refine wpList_nil ?_
   refine hK14 _ _ ?_; clear hK14; try clear K14
   refine bool_cases Hz (t := 30) rfl ?_ ?_
   ·
    clear Hz; intro hb177 Hz
    try simp only [Q1x, Q2x, Q3x, Q4x, Q5x, Q6x, Q7x, Q8x, Q9x, Q0x, Qax, Qbx] at hb177
    refine wp_cond_true (Hz.ev (x := .tmp 30) rfl) ?_
    replace Hz : Has 58 [(0, _), (3, _), (12, _), (25, _), (30, _)] Az := Hz.only [0, 3, 12, 25, 30]
    refine wp_seq_k (fun K16 hK16 => ?_)
    refine wp_region_lit ?_
    refine goCh Hz (.move rfl <| .loadBR m173 (i := 30) rfl rfl Tryz.underlying55 rfl sz55rvo (by simp) (by dsimp only [List.drop, List.take] <;> rfl) <| .nil) ?_
    clear Hz Az; intro Az Hz
    refine wpList_plain rfl (fun K hK => ?_)
    refine e_call Hz Tryz.func139 rfl rfl rfl rfl (rreply_s _ R s p ⟨3, gm, f, t, te, ix, lt, co, ok, [], 0, 0, [], [], [], 0, 0, 0, 0⟩ 4 false 0 none none none none 0 0 0 0 0 0 0 0 _ (by have := hk.ms; omega) (m173.into [(1, 1), (2, 2), (3, 3), (4, 4), (5, 5), (6, 6), (7, 7), (8, 8)] (by decide) rfl)) ?_
    rintro e w183 ⟨p9, rfl, hm183⟩
    have mx183 := m173.back hm183 [(1, 1), (2, 2), (3, 3), (4, 4), (5, 5), (6, 6), (7, 7), (8, 8)] (by decide); clear hm183 m173
    have m183 : MemOk _ _ [(1, _), (2, _), (3, _), (4, _), (5, _), (6, _), (7, _), (8, _), (30, _)] _ := mx183.only [1, 2, 3, 4, 5, 6, 7, 8, 30]; clear mx183
    refine ⟨_, rfl, ?_⟩; clear Hz Az; intro Az Hz
    refine hK _ _ ?_; clear hK K
    refine wpList_nil ?_
    refine hK16 _ _ ?_; clear hK16; try clear K16
    refine wp_ret ?_
    try dsimp only [Exit.then, Exit.inBlock]
    refine (ret0r (fn := Tryz.f99) Hz rfl ?_)
    rw [show voteW2 s f ix lt = replyS s f 4 false 0 from by unfold voteW2; rw [(vb_b s f ix lt hb157).symm.trans hb177]; rfl]
    exact ⟨p9, rfl, m183.only [1, 2, 3, 4, 5, 6, 7, 8]⟩
   ·
    clear Hz; intro hb177 Hz
    try simp only [Q1x, Q2x, Q3x, Q4x, Q5x, Q6x, Q7x, Q8x, Q9x, Q0x, Qax, Qbx] at hb177
    refine wp_cond_false (Hz.ev (x := .tmp 30) rfl) ?_
    refine wp_skip ?_
    show K9 _ _
    exact hC9 _ _ ⟨(vb_b s f ix lt hb157).symm.trans hb177, Hz.only [0, 3], m173.ren [(30, 30), (1, 1), (2, 2), (3, 3), (4, 4), (5, 5), (6, 6), (7, 7), (8, 8)] (by decide)⟩
theorem rhandler3_s (X : Cx) (R : Nat) (w0 : World) (m0 : MemOk X w0 [] w0) :
   Calls Tryz.prog 60 #[.pointer (some ⟨R, 0, none⟩), .int .i64 3] w0 fun e w' => ∃ B1 B2 B3, e = .returned (.func (.func 142) #[] #[.pointer (some ⟨B1, 0, none⟩), .pointer (some ⟨B2, 0, none⟩), .pointer (some ⟨B3, 0, none⟩)]) ∧ MemOk X w0 [(61, .box B1 33 [.pointer (some ⟨R, 0, none⟩)]), (62, .box B2 106 [(.func (.func 99) #[.pointer (some ⟨R, 0, none⟩)] #[])]), (63, .box B3 3 [.int .i64 4])] w' := by
 refine enter (fn := Tryz.f60) Tryz.func60 rfl Tryz.ntmps60 rfl (fun Az Hz => ?_)
 simp only [List.zipIdx_cons, List.zipIdx_nil, List.map_cons, List.map_nil, Nat.reduceAdd, Nat.zero_add] at Hz
 refine regS Hz (.assign rfl <| .nil) ?_
 clear Hz Az; intro Az Hz
 refine wp_seq_k (fun K0 hK0 => ?_)
 refine regS Hz (.move rfl <| .nil) ?_
 clear Hz Az; intro Az Hz
 refine wp_block ?_
 refine regS Hz (.eql rfl rfl <| .assign rfl <| .nil) ?_
 clear Hz Az; intro Az Hz
 refine bool_cases Hz (t := 6) rfl ?_ ?_
 · intro hb _; exact absurd hb (by decide)
 clear Hz; intro _ Hz
 refine wp_cond_false (Hz.ev (x := .tmp 6) rfl) ?_
 refine regS Hz (.eql rfl rfl <| .assign rfl <| .nil) ?_
 clear Hz Az; intro Az Hz
 refine bool_cases Hz (t := 10) rfl ?_ ?_
 · intro hb _; exact absurd hb (by decide)
 clear Hz; intro _ Hz
 refine wp_cond_false (Hz.ev (x := .tmp 10) rfl) ?_
 refine regS Hz (.eql rfl rfl <| .assign rfl <| .nil) ?_
 clear Hz Az; intro Az Hz
 refine bool_cases Hz (t := 14) rfl ?_ ?_
 rotate_left
 · intro hb _; exact absurd hb (by decide)
 clear Hz; intro _ Hz
 refine wp_cond_true (Hz.ev (x := .tmp 14) rfl) ?_
 replace Hz : Has 44 [(0, _), (4, _), (5, _)] Az := Hz.only [0, 4, 5]
 refine wp_seq_k (fun K1 hK1 => ?_)
 refine wp_region_lit ?_
 refine goCh Hz (.move rfl <| .move rfl <| .c rfl (fun _ h_ => y_makeFuncB h_ rfl rfl) <| .nil) ?_
 clear Hz Az; intro Az Hz
 refine wpList_plain rfl (fun K hK => ?_)
 refine e_call Hz Tryz.func98 rfl rfl rfl rfl (rofTerm_s _ R 99 4 _ (m0.into [] (by decide) rfl)) ?_
 rintro e w19 ⟨B1, B2, B3, rfl, hm19⟩
 have mx19 := m0.back hm19 [(61, 61), (62, 62), (63, 63)] (by decide); clear hm19 m0
 have m19 : MemOk _ _ [(61, _), (62, _), (63, _)] _ := mx19.only [61, 62, 63]; clear mx19
 refine ⟨_, rfl, ?_⟩; clear Hz Az; intro Az Hz
 refine hK _ _ ?_; clear hK K
 refine goCh Hz (.assign rfl .nil) ?_
 clear Hz Az; intro Az Hz
 refine wpList_nil ?_
 refine hK1 _ _ ?_; clear hK1; try clear K1
 refine wp_ret ?_
 try dsimp only [Exit.then, Exit.inBlock]
 refine (ret1 (fn := Tryz.f60) Hz rfl rfl ?_)
 exact ⟨B1, B2, B3, rfl, m19.only [61, 62, 63]⟩
theorem rqVote_s (X : Cx) (R : Nat) (s : RS) (p : RP) (gm f t te ix lt co : Int) (ok : Bool) (B1 B2 B3 : Nat) (w0 : World) (hk : ROk s) (hkd : ROk (dnS s te)) (m0 : MemOk X w0 ((61, .box B1 33 [.pointer (some ⟨R, 0, none⟩)]) :: (62, .box B2 106 [(.func (.func 99) #[.pointer (some ⟨R, 0, none⟩)] #[])]) :: (63, .box B3 3 [.int .i64 4]) :: rfM R s p) w0) :
   Calls Tryz.prog 142 #[.agg #[.int .i64 3, .int .i64 gm, .int .i64 f, .int .i64 t, .int .i64 te, .int .i64 ix, .int .i64 lt, .int .i64 co, .bool ok, .slice none 0 0, .int .i64 0, .int .i64 0, .slice none 0 0, .slice none 0 0, .slice none 0 0, .int .i64 0, .int .i64 0, .int .i64 0, .int .i64 0], .pointer (some ⟨B1, 0, none⟩), .pointer (some ⟨B2, 0, none⟩), .pointer (some ⟨B3, 0, none⟩)] w0 fun e w' => ∃ p', e = .returned (.tuple #[]) ∧ MemOk X w0 (rfM R (voteW s f te ix lt) p') w' := by
 refine enter (fn := Tryz.f142) Tryz.func142 rfl Tryz.ntmps142 rfl (fun Az Hz => ?_)
 simp only [List.zipIdx_cons, List.zipIdx_nil, List.map_cons, List.map_nil, Nat.reduceAdd, Nat.zero_add] at Hz
 refine wp_seq_k (fun K0 hK0 => ?_)
 refine wp_region_lit ?_
 refine wpList_plain rfl (fun K hK => ?_)
 refine e_box Hz m0 70 (cs := [_, _, _, _, _, _, _, _, _, _, _, _, _, _, _, _, _, _, _]) rfl rfl rfl ?_
 clear Hz Az m0; intro g1 Az w2 Hz m2 hB2 hg2
 clear hB2 hg2
 refine hK _ _ ?_; clear hK K
 refine wpList_nil ?_
 refine hK0 _ _ ?_; clear hK0; try clear K0
 refine wp_seq_k (fun K1 hK1 => ?_)
 have hC1 : ∀ (a : Act) (w : World), (∃ (s1 : RS) (p1 : RP) (Bm : Nat), s1 = dnS s te ∧ Has 36 [(1, .pointer (some ⟨B1, 0, none⟩)), (2, .pointer (some ⟨B2, 0, none⟩)), (3, .pointer (some ⟨B3, 0, none⟩)), (4, .pointer (some ⟨Bm, 0, none⟩))] a ∧ MemOk X w0 ((30, .box Bm 55 [.int .i64 3, .int .i64 gm, .int .i64 f, .int .i64 t, .int .i64 te, .int .i64 ix, .int .i64 lt, .int .i64 co, .bool ok, .slice none 0 0, .int .i64 0, .int .i64 0, .slice none 0 0, .slice none 0 0, .slice none 0 0, .int .i64 0, .int .i64 0, .int .i64 0, .int .i64 0]) :: (61, .box B1 33 [.pointer (some ⟨R, 0, none⟩)]) :: (62, .box B2 106 [(.func (.func 99) #[.pointer (some ⟨R, 0, none⟩)] #[])]) :: (63, .box B3 3 [.int .i64 4]) :: rfM R s1 p1) w) → K1 a w := by
   clear Hz m2
   rintro Az w3 ⟨s1, p1, Bm, h1, Hz, m3⟩
   refine hK1 _ _ ?_; clear hK1; try clear K1
   refine wp_seq_k (fun K2 hK2 => ?_)
   have m4 : MemOk _ _ [(1, _), (2, _), (3, _), (4, _), (5, _), (6, _), (7, _), (8, _), (30, _), (61, _), (62, _), (63, _)] _ := m3.only [1, 2, 3, 4, 5, 6, 7, 8, 30, 61, 62, 63]; clear m3
   refine region_p 9 (B := [(1, _), (2, _), (3, _), (4, _), (5, _), (6, _), (7, _), (8, _), (30, _), (61, _), (62, _), (63, _)]) (m4.to ⟨il, il, il, il, il, il, il, il, il, il, il, il, trivial⟩) m4 (by kernel_rfl) (fun w5 hP5 m5 => ?_); clear m4
   refine goR hP5 [0, 1, 2, 3, 4, 5, 6, 7, 8] [1, 2, 7] 9 0 511 Hz (m5.to ⟨il, il, il, il, il, il, il, il, il, il, il, il, trivial⟩) (.fieldAddr (off := 4) rfl Tryz.underlying55 rfl (s := 0) (by kernel_rfl) rfl <| .loadB1 hh (i := 30) rfl rfl rfl Tryz.underlying3 rfl <| .loadB1 hh (i := 61) rfl rfl rfl Tryz.underlying33 rfl <| .nilCheck rfl <| .fieldAddr (off := 0) rfl Tryz.underlying86 rfl (s := 4) (by kernel_rfl) rfl <| .fieldAddr (off := 2) rfl Tryz.underlying81 rfl (s := 1) (by kernel_rfl) rfl <| .fieldAddr (off := 2) rfl Tryz.underlying25 rfl (s := 0) (by kernel_rfl) rfl <| .loadB1 hh (i := 1) rfl rfl rfl Tryz.underlying3 rfl <| .eql rfl rfl <| .nil) ?_
   clear Hz Az; intro Az Hz
   refine wpAnyE_done (by kernel_rfl) ?_ _
   refine hK2 _ _ ?_; clear hK2; try clear K2
   refine bool_cases Hz (t := 26) rfl ?_ ?_
   ·
    clear Hz; intro hb15 Hz
    try simp only [Q1x, Q2x, Q3x, Q4x, Q5x, Q6x, Q7x, Q8x, Q9x, Q0x, Qax, Qbx] at hb15
    have hk1 : ROk s1 := h1 ▸ hkd
    refine wp_cond_true (Hz.ev (x := .tmp 26) rfl) ?_
    replace Hz : Has 36 [(1, _), (2, _), (3, _), (4, _), (26, _)] Az := Hz.only [1, 2, 3, 4, 26]
    refine wp_region_lit ?_
    refine goCh Hz (.loadB1 m5 (i := 62) rfl rfl rfl Tryz.underlying106 rfl <| .loadBR m5 (i := 30) rfl rfl Tryz.underlying55 rfl sz55rqVote (by simp) (by dsimp only [List.drop, List.take] <;> rfl) <| .nil) ?_
    clear Hz Az; intro Az Hz
    refine wpList_plain rfl (fun K hK => ?_)
    refine e_callG Hz rfl Tryz.func99 rfl rfl rfl rfl (ronVote_s _ R s1 p1 gm f t te ix lt co ok _ hk1 (m5.into [(1, 1), (2, 2), (3, 3), (4, 4), (5, 5), (6, 6), (7, 7), (8, 8)] (by decide) rfl)) ?_
    rintro e w19 ⟨p9, rfl, hm19⟩
    have mx19 := m5.back hm19 [(1, 1), (2, 2), (3, 3), (4, 4), (5, 5), (6, 6), (7, 7), (8, 8)] (by decide); clear hm19 m5
    have m19 : MemOk _ _ [(1, _), (2, _), (3, _), (4, _), (5, _), (6, _), (7, _), (8, _), (30, _), (61, _), (62, _), (63, _)] _ := mx19.only [1, 2, 3, 4, 5, 6, 7, 8, 30, 61, 62, 63]; clear mx19
    refine ⟨_, rfl, ?_⟩; clear Hz Az; intro Az Hz
    refine hK _ _ ?_; clear hK K
    refine wpList_nil ?_
    try dsimp only [Exit.then, Exit.inBlock]
    try refine out_here ?_
    refine (ret0 (fn := Tryz.f142) Hz rfl ?_)
    rw [show voteW s f te ix lt = voteW2 s1 f ix lt from by unfold voteW voteW1; rw [← h1, if_neg (by omega)]; rfl]
    exact ⟨p9, rfl, m19.only [1, 2, 3, 4, 5, 6, 7, 8]⟩
   ·
    clear Hz; intro hb15 Hz
    try simp only [Q1x, Q2x, Q3x, Q4x, Q5x, Q6x, Q7x, Q8x, Q9x, Q0x, Qax, Qbx] at hb15
    have hk1 : ROk s1 := h1 ▸ hkd
    have hlt : te < s1.x.te := by have := dn_ge s te; rw [← h1] at this; omega
    refine wp_cond_false (Hz.ev (x := .tmp 26) rfl) ?_
    replace Hz : Has 36 [(1, _), (3, _), (4, _), (26, _)] Az := Hz.only [1, 3, 4, 26]
    refine regS Hz (.loadB1 m5 (i := 63) rfl rfl rfl Tryz.underlying3 rfl <| .neq rfl rfl <| .nil) ?_
    clear Hz Az; intro Az Hz
    refine bool_cases Hz (t := 31) rfl ?_ ?_
    rotate_left
    · intro hb _; exact absurd hb (by decide)
    clear Hz; intro _ Hz
    refine wp_cond_true (Hz.ev (x := .tmp 31) rfl) ?_
    refine wp_region_lit ?_
    refine goCh Hz (.loadB1 m5 (i := 61) rfl rfl rfl Tryz.underlying33 rfl <| .loadBR m5 (i := 30) rfl rfl Tryz.underlying55 rfl sz55rqVote (by simp) (by dsimp only [List.drop, List.take] <;> rfl) <| .loadB1 m5 (i := 63) rfl rfl rfl Tryz.underlying3 rfl <| .nil) ?_
    clear Hz Az; intro Az Hz
    refine wpList_plain rfl (fun K hK => ?_)
    refine e_call Hz Tryz.func139 rfl rfl rfl rfl (rreply_s _ R s1 p1 ⟨3, gm, f, t, te, ix, lt, co, ok, [], 0, 0, [], [], [], 0, 0, 0, 0⟩ 4 false 0 none none none none 0 0 0 0 0 0 0 0 _ (by have := hk1.ms; omega) (m5.into [(1, 1), (2, 2), (3, 3), (4, 4), (5, 5), (6, 6), (7, 7), (8, 8)] (by decide) rfl)) ?_
    rintro e w28 ⟨p9, rfl, hm28⟩
    have mx28 := m5.back hm28 [(1, 1), (2, 2), (3, 3), (4, 4), (5, 5), (6, 6), (7, 7), (8, 8)] (by decide); clear hm28 m5
    have m28 : MemOk _ _ [(1, _), (2, _), (3, _), (4, _), (5, _), (6, _), (7, _), (8, _), (30, _), (61, _), (62, _), (63, _)] _ := mx28.only [1, 2, 3, 4, 5, 6, 7, 8, 30, 61, 62, 63]; clear mx28
    refine ⟨_, rfl, ?_⟩; clear Hz Az; intro Az Hz
    refine hK _ _ ?_; clear hK K
    refine wpList_nil ?_
    try dsimp only [Exit.then, Exit.inBlock]
    try refine out_here ?_
    refine (ret0 (fn := Tryz.f142) Hz rfl ?_)
    rw [show voteW s f te ix lt = replyS s1 f 4 false 0 from by unfold voteW voteW1; rw [← h1, if_pos hlt]; rfl]
    exact ⟨p9, rfl, m28.only [1, 2, 3, 4, 5, 6, 7, 8]⟩
 refine wp_seq_k (fun K3 hK3 => ?_)
 have m30 : MemOk _ _ [(1, _), (2, _), (3, _), (4, _), (5, _), (6, _), (7, _), (8, _), (61, _), (62, _), (63, _), (70, _)] _ := m2.only [1, 2, 3, 4, 5, 6, 7, 8, 61, 62, 63, 70]; clear m2
 refine region_p 9 (B := [(1, _), (2, _), (3, _), (4, _), (5, _), (6, _), (7, _), (8, _), (61, _), (62, _), (63, _), (70, _)]) (m30.to ⟨il, il, il, il, il, il, il, il, il, il, il, il, trivial⟩) m30 (by kernel_rfl) (fun w31 hP31 m31 => ?_); clear m30
 refine goR hP31 [0, 1, 2, 3, 4, 5, 6, 7, 8] [1, 2, 7] 9 0 511 Hz (m31.to ⟨il, il, il, il, il, il, il, il, il, il, il, il, trivial⟩) (.fieldAddr (off := 4) rfl Tryz.underlying55 rfl (s := 0) (by kernel_rfl) rfl <| .loadB1 hh (i := 70) rfl rfl rfl Tryz.underlying3 rfl <| .loadB1 hh (i := 61) rfl rfl rfl Tryz.underlying33 rfl <| .nilCheck rfl <| .fieldAddr (off := 0) rfl Tryz.underlying86 rfl (s := 4) (by kernel_rfl) rfl <| .fieldAddr (off := 2) rfl Tryz.underlying81 rfl (s := 1) (by kernel_rfl) rfl <| .fieldAddr (off := 2) rfl Tryz.underlying25 rfl (s := 0) (by kernel_rfl) rfl <| .loadB1 hh (i := 1) rfl rfl rfl Tryz.underlying3 rfl <| .gtr rfl rfl <| .nil) ?_
 clear Hz Az; intro Az Hz
 refine wpAnyE_done (by kernel_rfl) ?_ _
 refine hK3 _ _ ?_; clear hK3; try clear K3
 refine bool_cases Hz (t := 13) rfl ?_ ?_
 ·
  clear Hz; intro hb41 Hz
  try simp only [Q1x, Q2x, Q3x, Q4x, Q5x, Q6x, Q7x, Q8x, Q9x, Q0x, Qax, Qbx] at hb41
  refine wp_cond_true (Hz.ev (x := .tmp 13) rfl) ?_
  replace Hz : Has 36 [(1, _), (2, _), (3, _), (4, _), (13, _)] Az := Hz.only [1, 2, 3, 4, 13]
  refine wp_region_lit ?_
  refine goCh Hz (.loadB1 m31 (i := 61) rfl rfl rfl Tryz.underlying33 rfl <| .fieldAddr (off := 4) rfl Tryz.underlying55 rfl (s := 0) (by kernel_rfl) rfl <| .loadB1 m31 (i := 70) rfl rfl rfl Tryz.underlying3 rfl <| .nil) ?_
  clear Hz Az; intro Az Hz
  refine wpList_plain rfl (fun K hK => ?_)
  refine e_call Hz Tryz.func140 rfl rfl rfl rfl (rdown_s _ R s p te _ (by have := hk.rs; omega) (m31.into [(1, 1), (2, 2), (3, 3), (4, 4), (5, 5), (6, 6), (7, 7), (8, 8)] (by decide) rfl)) ?_
  rintro e w46 ⟨p1, rfl, hm46⟩
  have mx46 := m31.back hm46 [(1, 1), (2, 2), (3, 3), (4, 4), (5, 5), (6, 6), (7, 7), (8, 8)] (by decide); clear hm46 m31
  have m46 : MemOk _ _ [(1, _), (2, _), (3, _), (4, _), (5, _), (6, _), (7, _), (8, _), (61, _), (62, _), (63, _), (70, _)] _ := mx46.only [1, 2, 3, 4, 5, 6, 7, 8, 61, 62, 63, 70]; clear mx46
  refine ⟨_, rfl, ?_⟩; clear Hz Az; intro Az Hz
  refine hK _ _ ?_; clear hK K
  refine wpList_nil ?_
  show K1 _ _
  exact hC1 _ _ ⟨_, _, _, dn_yes s hb41, Hz.only [1, 2, 3, 4], m46.ren [(30, 70), (61, 61), (62, 62), (63, 63), (1, 1), (2, 2), (3, 3), (4, 4), (5, 5), (6, 6), (7, 7), (8, 8)] (by decide)⟩
 ·
  clear Hz; intro hb41 Hz
  try simp only [Q1x, Q2x, Q3x, Q4x, Q5x, Q6x, Q7x, Q8x, Q9x, Q0x, Qax, Qbx] at hb41
  refine wp_cond_false (Hz.ev (x := .tmp 13) rfl) ?_
  refine wp_skip ?_
  show K1 _ _
  exact hC1 _ _ ⟨_, _, _, dn_no s hb41, Hz.only [1, 2, 3, 4], m31.ren [(30, 70), (61, 61), (62, 62), (63, 63), (1, 1), (2, 2), (3, 3), (4, 4), (5, 5), (6, 6), (7, 7), (8, 8)] (by decide)⟩
theorem rRecvVote_s (X : Cx) (R : Nat) (s : RS) (p : RP) (gm f t te ix lt co : Int) (ok : Bool) (w0 : World) (hk : ROk s) (hg : gm = s.x.gr) (ht : t = s.x.id) (hf : f ≠ s.x.id) (hkd : ROk (dnS s te)) (m0 : MemOk X w0 (rfM R s p) w0) :
   Calls Tryz.prog 23 #[.pointer (some ⟨R, 0, none⟩), .agg #[.int .i64 3, .int .i64 gm, .int .i64 f, .int .i64 t, .int .i64 te, .int .i64 ix, .int .i64 lt, .int .i64 co, .bool ok, .slice none 0 0, .int .i64 0, .int .i64 0, .slice none 0 0, .slice none 0 0, .slice none 0 0, .int .i64 0, .int .i64 0, .int .i64 0, .int .i64 0]] w0 fun e w' => ∃ p' o', e = .returned (.agg #[.slice o'.pm ((voteW s f te ix lt).ms.map rmD).length o'.cm, .slice o'.pq ((voteW s f te ix lt).rs.map rrD).length o'.cq, .bool (voteW s f te ix lt).re]) ∧ MemOk X w0 (ouM (voteW s f te ix lt) o' (rfM R (clrS (voteW s f te ix lt)) (nilP p'))) w' := by
 refine enter (fn := Tryz.f23) Tryz.func23 rfl Tryz.ntmps23 rfl (fun Az Hz => ?_)
 simp only [List.zipIdx_cons, List.zipIdx_nil, List.map_cons, List.map_nil, Nat.reduceAdd, Nat.zero_add] at Hz
 refine wp_seq_k (fun K0 hK0 => ?_)
 refine wp_region_lit ?_
 refine wpList_plain rfl (fun K hK => ?_)
 refine e_box Hz m0 70 (cs := [_, _, _, _, _, _, _, _, _, _, _, _, _, _, _, _, _, _, _]) rfl rfl rfl ?_
 clear Hz Az m0; intro g1 Az w2 Hz m2 hB2 hg2
 clear hB2 hg2
 refine hK _ _ ?_; clear hK K
 refine wpList_plain rfl (fun K hK => ?_)
 refine e_alloc Hz m2 71 zc46rpVote rfl ?_
 clear Hz Az m2; intro g3 Az w4 Hz m4 hB4 hg4
 clear hB4 hg4
 refine hK _ _ ?_; clear hK K
 refine wpList_nil ?_
 refine hK0 _ _ ?_; clear hK0; try clear K0
 refine wp_seq_k (fun K1 hK1 => ?_)
 refine wp_seq_k (fun K2 hK2 => ?_)
 have m5 : MemOk _ _ [(1, _), (2, _), (3, _), (4, _), (5, _), (6, _), (7, _), (8, _), (70, _), (71, _)] _ := m4.only [1, 2, 3, 4, 5, 6, 7, 8, 70, 71]; clear m4
 refine region_p 28 (B := [(1, _), (2, _), (3, _), (4, _), (5, _), (6, _), (7, _), (8, _), (70, _), (71, _)]) (m5.to ⟨il, il, il, il, il, il, il, il, il, il, trivial⟩) m5 (by kernel_rfl) (fun w6 hP6 m6 => ?_); clear m5
 refine goR hP6 [0, 1, 2, 3, 4, 5, 6, 7, 8] [1, 6] 9 0 511 Hz (m6.to ⟨il, il, il, il, il, il, il, il, il, il, trivial⟩) (.fieldAddr (off := 1) rfl Tryz.underlying55 rfl (s := 0) (by kernel_rfl) rfl <| .loadB1 hh (i := 70) rfl rfl rfl Tryz.underlying3 rfl <| .move rfl <| .nilCheck rfl <| .fieldAddr (off := 0) rfl Tryz.underlying86 rfl (s := 4) (by kernel_rfl) rfl <| .fieldAddr (off := 1) rfl Tryz.underlying81 rfl (s := 0) (by kernel_rfl) rfl <| .loadB1 hh (i := 1) rfl rfl rfl Tryz.underlying3 rfl <| .neq rfl rfl <| .move rfl <| .nil) ?_
 clear Hz Az; intro Az Hz
 refine bool_cases Hz (t := 14) rfl ?_ ?_
 · intro hb _; exact absurd hb (by simp; omega)
 clear Hz; intro _ Hz
 refine goR hP6 [9, 10, 11, 12, 13, 14, 15, 16, 17, 18] [10, 15] 10 511 524287 Hz (m6.to ⟨il, il, il, il, il, il, il, il, il, il, trivial⟩) (.fieldAddr (off := 3) rfl Tryz.underlying55 rfl (s := 0) (by kernel_rfl) rfl <| .loadB1 hh (i := 70) rfl rfl rfl Tryz.underlying3 rfl <| .move rfl <| .nilCheck rfl <| .fieldAddr (off := 0) rfl Tryz.underlying86 rfl (s := 4) (by kernel_rfl) rfl <| .fieldAddr (off := 0) rfl Tryz.underlying81 rfl (s := 0) (by kernel_rfl) rfl <| .loadB1 hh (i := 1) rfl rfl rfl Tryz.underlying3 rfl <| .neq rfl rfl <| .pickF rfl rfl <| .move rfl <| .nil) ?_
 clear Hz Az; intro Az Hz
 refine bool_cases Hz (t := 24) rfl ?_ ?_
 · intro hb _; exact absurd hb (by simp; omega)
 clear Hz; intro _ Hz
 refine goR hP6 [19, 20, 21, 22, 23, 24, 25, 26, 27] [20, 25] 9 524287 268435455 Hz (m6.to ⟨il, il, il, il, il, il, il, il, il, il, trivial⟩) (.fieldAddr (off := 2) rfl Tryz.underlying55 rfl (s := 0) (by kernel_rfl) rfl <| .loadB1 hh (i := 70) rfl rfl rfl Tryz.underlying3 rfl <| .move rfl <| .nilCheck rfl <| .fieldAddr (off := 0) rfl Tryz.underlying86 rfl (s := 4) (by kernel_rfl) rfl <| .fieldAddr (off := 0) rfl Tryz.underlying81 rfl (s := 0) (by kernel_rfl) rfl <| .loadB1 hh (i := 1) rfl rfl rfl Tryz.underlying3 rfl <| .eql rfl rfl <| .pickF rfl rfl <| .nil) ?_
 clear Hz Az; intro Az Hz
 refine wpAnyE_done (by kernel_rfl) ?_ _
 refine hK2 _ _ ?_; clear hK2; try clear K2
 refine bool_cases Hz (t := 33) rfl ?_ ?_
 · intro hb _; exact absurd hb (by simp; omega)
 clear Hz; intro _ Hz
 refine wp_cond_false (Hz.ev (x := .tmp 33) rfl) ?_
 refine wp_skip ?_
 refine hK1 _ _ ?_; clear hK1; try clear K1
 refine wp_seq_k (fun K3 hK3 => ?_)
 replace Hz : Has 46 [(0, _), (3, _), (4, _)] Az := Hz.only [0, 3, 4]
 refine wp_seq_k (fun K4 hK4 => ?_)
 refine wp_region_lit ?_
 refine goCh Hz (.move rfl <| .fieldAddr (off := 0) rfl Tryz.underlying55 rfl (s := 0) (by kernel_rfl) rfl <| .loadB1 m6 (i := 70) rfl rfl rfl Tryz.underlying3 rfl <| .nil) ?_
 clear Hz Az; intro Az Hz
 refine wpList_plain rfl (fun K hK => ?_)
 refine e_call Hz Tryz.func60 rfl rfl rfl rfl (rhandler3_s _ R _ (m6.into [] (by decide) rfl)) ?_
 rintro e w45 ⟨B1, B2, B3, rfl, hm45⟩
 have mx45 := m6.back hm45 [(61, 61), (62, 62), (63, 63)] (by decide); clear hm45 m6
 have m45 : MemOk _ _ [(61, _), (62, _), (63, _), (1, _), (2, _), (3, _), (4, _), (5, _), (6, _), (7, _), (8, _), (70, _), (71, _)] _ := mx45.only [61, 62, 63, 1, 2, 3, 4, 5, 6, 7, 8, 70, 71]; clear mx45
 refine ⟨_, rfl, ?_⟩; clear Hz Az; intro Az Hz
 refine hK _ _ ?_; clear hK K
 refine goCh Hz (.assign rfl .nil) ?_
 clear Hz Az; intro Az Hz
 refine wpList_nil ?_
 refine hK4 _ _ ?_; clear hK4; try clear K4
 refine regS Hz (.move rfl <| .c rfl (fun _ h_ => y_neqF h_ rfl rfl Tryz.underlying106) <| .nil) ?_
 clear Hz Az; intro Az Hz
 refine wp_cond_true (Hz.ev (x := .tmp 40) rfl) ?_
 replace Hz : Has 46 [(0, _), (3, _), (4, _), (5, _)] Az := Hz.only [0, 3, 4, 5]
 refine wp_region_lit ?_
 refine goCh Hz (.move rfl <| .loadBR m45 (i := 70) rfl rfl Tryz.underlying55 rfl sz55rpVote (by simp) (by dsimp only [List.drop, List.take] <;> rfl) <| .nil) ?_
 clear Hz Az; intro Az Hz
 refine wpList_plain rfl (fun K hK => ?_)
 refine e_callC Hz rfl Tryz.func142 rfl rfl rfl rfl (rqVote_s _ R s p gm f t te ix lt co ok B1 B2 B3 _ hk hkd (m45.into [(61, 61), (62, 62), (63, 63), (1, 1), (2, 2), (3, 3), (4, 4), (5, 5), (6, 6), (7, 7), (8, 8)] (by decide) rfl)) ?_
 rintro e w53 ⟨p2, rfl, hm53⟩
 have mx53 := m45.back hm53 [(1, 1), (2, 2), (3, 3), (4, 4), (5, 5), (6, 6), (7, 7), (8, 8)] (by decide); clear hm53 m45
 have m53 : MemOk _ _ [(1, _), (2, _), (3, _), (4, _), (5, _), (6, _), (7, _), (8, _), (70, _), (71, _)] _ := mx53.only [1, 2, 3, 4, 5, 6, 7, 8, 70, 71]; clear mx53
 refine ⟨_, rfl, ?_⟩; clear Hz Az; intro Az Hz
 refine hK _ _ ?_; clear hK K
 refine wpList_nil ?_
 refine hK3 _ _ ?_; clear hK3; try clear K3
 refine wp_seq_k (fun K5 hK5 => ?_)
 refine wp_region_lit ?_
 refine goCh Hz (.move rfl .nil) ?_
 clear Hz Az; intro Az Hz
 refine wpList_plain rfl (fun K hK => ?_)
 refine e_call Hz Tryz.func47 rfl rfl rfl rfl (rtaken_s _ R (voteW s f te ix lt) p2 _ (m53.into [(1, 1), (2, 2), (3, 3), (4, 4), (5, 5), (6, 6), (7, 7), (8, 8)] (by decide) rfl)) ?_
 rintro e w57 ⟨p9, o9, rfl, hm57⟩
 have mx57 := m53.back hm57 [(1, 1), (2, 2), (3, 3), (4, 4), (5, 5), (6, 6), (7, 7), (8, 8), (11, 11), (12, 12)] (by decide); clear hm57 m53
 have m57 : MemOk _ _ [(1, _), (2, _), (3, _), (4, _), (5, _), (6, _), (7, _), (8, _), (11, _), (12, _), (70, _), (71, _)] _ := mx57.only [1, 2, 3, 4, 5, 6, 7, 8, 11, 12, 70, 71]; clear mx57
 refine ⟨_, rfl, ?_⟩; clear Hz Az; intro Az Hz
 refine hK _ _ ?_; clear hK K
 refine wpList_plain rfl (fun K hK => ?_)
 refine e_storeW Hz m57 71 rfl rfl rfl rfl rfl sz46rpVote ?_
 clear m57; intro w59 m59 hB59
 clear hB59
 refine hK _ _ ?_; clear hK K
 refine wpList_nil ?_
 refine hK5 _ _ ?_; clear hK5; try clear K5
 refine wp_ret ?_
 try dsimp only [Exit.then, Exit.inBlock]
 refine (retC (fn := Tryz.f23) Hz m59 (i := 71) rfl rfl rfl Tryz.underlying46 rfl sz46rpVote ?_)
 exact ⟨p9, o9, rfl, m59.only [11, 12, 1, 2, 3, 4, 5, 6, 7, 8]⟩
theorem rqVoteAny_s (X : Cx) (R : Nat) (s : RS) (p : RP) (gm f t te ix lt co : Int) (ok : Bool) (B1 B2 B3 : Nat) (w0 : World) (hk : ROk s) (hkd : ROk (dnS s te)) (m0 : MemOk X w0 ((61, .box B1 33 [.pointer (some ⟨R, 0, none⟩)]) :: (62, .box B2 106 [(.func (.func 100) #[.pointer (some ⟨R, 0, none⟩)] #[])]) :: (63, .box B3 3 [.int .i64 0]) :: rfM R s p) w0) :
   Calls Tryz.prog 142 #[.agg #[.int .i64 4, .int .i64 gm, .int .i64 f, .int .i64 t, .int .i64 te, .int .i64 ix, .int .i64 lt, .int .i64 co, .bool ok, .slice none 0 0, .int .i64 0, .int .i64 0, .slice none 0 0, .slice none 0 0, .slice none 0 0, .int .i64 0, .int .i64 0, .int .i64 0, .int .i64 0], .pointer (some ⟨B1, 0, none⟩), .pointer (some ⟨B2, 0, none⟩), .pointer (some ⟨B3, 0, none⟩)] w0 fun e w' => ∃ p', e = .returned (.tuple #[]) ∧ MemOk X w0 (rfM R (voteOkP s f te ok) p') w' := by
 refine enter (fn := Tryz.f142) Tryz.func142 rfl Tryz.ntmps142 rfl (fun Az Hz => ?_)
 simp only [List.zipIdx_cons, List.zipIdx_nil, List.map_cons, List.map_nil, Nat.reduceAdd, Nat.zero_add] at Hz
 refine wp_seq_k (fun K0 hK0 => ?_)
 refine wp_region_lit ?_
 refine wpList_plain rfl (fun K hK => ?_)
 refine e_box Hz m0 70 (cs := [_, _, _, _, _, _, _, _, _, _, _, _, _, _, _, _, _, _, _]) rfl rfl rfl ?_
 clear Hz Az m0; intro g1 Az w2 Hz m2 hB2 hg2
 clear hB2 hg2
 refine hK _ _ ?_; clear hK K
 refine wpList_nil ?_
 refine hK0 _ _ ?_; clear hK0; try clear K0
 refine wp_seq_k (fun K1 hK1 => ?_)
 have hC1 : ∀ (a : Act) (w : World), (∃ (s1 : RS) (p1 : RP) (Bm : Nat), s1 = dnS s te ∧ Has 36 [(1, .pointer (some ⟨B1, 0, none⟩)), (2, .pointer (some ⟨B2, 0, none⟩)), (3, .pointer (some ⟨B3, 0, none⟩)), (4, .pointer (some ⟨Bm, 0, none⟩))] a ∧ MemOk X w0 ((30, .box Bm 55 [.int .i64 4, .int .i64 gm, .int .i64 f, .int .i64 t, .int .i64 te, .int .i64 ix, .int .i64 lt, .int .i64 co, .bool ok, .slice none 0 0, .int .i64 0, .int .i64 0, .slice none 0 0, .slice none 0 0, .slice none 0 0, .int .i64 0, .int .i64 0, .int .i64 0, .int .i64 0]) :: (61, .box B1 33 [.pointer (some ⟨R, 0, none⟩)]) :: (62, .box B2 106 [(.func (.func 100) #[.pointer (some ⟨R, 0, none⟩)] #[])]) :: (63, .box B3 3 [.int .i64 0]) :: rfM R s1 p1) w) → K1 a w := by
   clear Hz m2
   rintro Az w3 ⟨s1, p1, Bm, h1, Hz, m3⟩
   refine hK1 _ _ ?_; clear hK1; try clear K1
   refine wp_seq_k (fun K2 hK2 => ?_)
   have m4 : MemOk _ _ [(1, _), (2, _), (3, _), (4, _), (5, _), (6, _), (7, _), (8, _), (30, _), (61, _), (62, _), (63, _)] _ := m3.only [1, 2, 3, 4, 5, 6, 7, 8, 30, 61, 62, 63]; clear m3
   refine region_p 9 (B := [(1, _), (2, _), (3, _), (4, _), (5, _), (6, _), (7, _), (8, _), (30, _), (61, _), (62, _), (63, _)]) (m4.to ⟨il, il, il, il, il, il, il, il, il, il, il, il, trivial⟩) m4 (by kernel_rfl) (fun w5 hP5 m5 => ?_); clear m4
   refine goR hP5 [0, 1, 2, 3, 4, 5, 6, 7, 8] [1, 2, 7] 9 0 511 Hz (m5.to ⟨il, il, il, il, il, il, il, il, il, il, il, il, trivial⟩) (.fieldAddr (off := 4) rfl Tryz.underlying55 rfl (s := 0) (by kernel_rfl) rfl <| .loadB1 hh (i := 30) rfl rfl rfl Tryz.underlying3 rfl <| .loadB1 hh (i := 61) rfl rfl rfl Tryz.underlying33 rfl <| .nilCheck rfl <| .fieldAddr (off := 0) rfl Tryz.underlying86 rfl (s := 4) (by kernel_rfl) rfl <| .fieldAddr (off := 2) rfl Tryz.underlying81 rfl (s := 1) (by kernel_rfl) rfl <| .fieldAddr (off := 2) rfl Tryz.underlying25 rfl (s := 0) (by kernel_rfl) rfl <| .loadB1 hh (i := 1) rfl rfl rfl Tryz.underlying3 rfl <| .eql rfl rfl <| .nil) ?_
   clear Hz Az; intro Az Hz
   refine wpAnyE_done (by kernel_rfl) ?_ _
   refine hK2 _ _ ?_; clear hK2; try clear K2
   refine bool_cases Hz (t := 26) rfl ?_ ?_
   ·
    clear Hz; intro hb15 Hz
    try simp only [Q1x, Q2x, Q3x, Q4x, Q5x, Q6x, Q7x, Q8x, Q9x, Q0x, Qax, Qbx] at hb15
    have hk1 : ROk s1 := h1 ▸ hkd
    refine wp_cond_true (Hz.ev (x := .tmp 26) rfl) ?_
    replace Hz : Has 36 [(1, _), (2, _), (3, _), (4, _), (26, _)] Az := Hz.only [1, 2, 3, 4, 26]
    refine wp_region_lit ?_
    refine goCh Hz (.loadB1 m5 (i := 62) rfl rfl rfl Tryz.underlying106 rfl <| .loadBR m5 (i := 30) rfl rfl Tryz.underlying55 rfl sz55rqVoteAny (by simp) (by dsimp only [List.drop, List.take] <;> rfl) <| .nil) ?_
    clear Hz Az; intro Az Hz
    refine wpList_plain rfl (fun K hK => ?_)
    refine e_callG Hz rfl Tryz.func100 rfl rfl rfl rfl (ronVoteOk_s _ R s1 p1 4 gm f t te ix lt co ok _ hk1 (m5.into [(1, 1), (2, 2), (3, 3), (4, 4), (5, 5), (6, 6), (7, 7), (8, 8)] (by decide) rfl)) ?_
    rintro e w19 ⟨p9, rfl, hm19⟩
    have mx19 := m5.back hm19 [(1, 1), (2, 2), (3, 3), (4, 4), (5, 5), (6, 6), (7, 7), (8, 8)] (by decide); clear hm19 m5
    have m19 : MemOk _ _ [(1, _), (2, _), (3, _), (4, _), (5, _), (6, _), (7, _), (8, _), (30, _), (61, _), (62, _), (63, _)] _ := mx19.only [1, 2, 3, 4, 5, 6, 7, 8, 30, 61, 62, 63]; clear mx19
    refine ⟨_, rfl, ?_⟩; clear Hz Az; intro Az Hz
    refine hK _ _ ?_; clear hK K
    refine wpList_nil ?_
    try dsimp only [Exit.then, Exit.inBlock]
    try refine out_here ?_
    refine (ret0 (fn := Tryz.f142) Hz rfl ?_)
    rw [show voteOkP s f te ok = voteOkS s1 f ok from by unfold voteOkP; rw [← h1, if_neg (by omega)]]
    exact ⟨p9, rfl, m19.only [1, 2, 3, 4, 5, 6, 7, 8]⟩
   ·
    clear Hz; intro hb15 Hz
    try simp only [Q1x, Q2x, Q3x, Q4x, Q5x, Q6x, Q7x, Q8x, Q9x, Q0x, Qax, Qbx] at hb15
    have hk1 : ROk s1 := h1 ▸ hkd
    have hlt : te < s1.x.te := by have := dn_ge s te; rw [← h1] at this; omega
    refine wp_cond_false (Hz.ev (x := .tmp 26) rfl) ?_
    replace Hz : Has 36 [(1, _), (3, _), (4, _), (26, _)] Az := Hz.only [1, 3, 4, 26]
    refine regS Hz (.loadB1 m5 (i := 63) rfl rfl rfl Tryz.underlying3 rfl <| .neq rfl rfl <| .nil) ?_
    clear Hz Az; intro Az Hz
    refine bool_cases Hz (t := 31) rfl ?_ ?_
    · intro hb _; exact absurd hb (by decide)
    clear Hz; intro _ Hz
    refine wp_cond_false (Hz.ev (x := .tmp 31) rfl) ?_
    refine wp_skip ?_
    try dsimp only [Exit.then, Exit.inBlock]
    try refine out_here ?_
    refine (ret0 (fn := Tryz.f142) Hz rfl ?_)
    rw [show voteOkP s f te ok = s1 from by unfold voteOkP; rw [← h1, if_pos hlt]]
    exact ⟨p1, rfl, m5.only [1, 2, 3, 4, 5, 6, 7, 8]⟩
 refine wp_seq_k (fun K3 hK3 => ?_)
 have m25 : MemOk _ _ [(1, _), (2, _), (3, _), (4, _), (5, _), (6, _), (7, _), (8, _), (61, _), (62, _), (63, _), (70, _)] _ := m2.only [1, 2, 3, 4, 5, 6, 7, 8, 61, 62, 63, 70]; clear m2
 refine region_p 9 (B := [(1, _), (2, _), (3, _), (4, _), (5, _), (6, _), (7, _), (8, _), (61, _), (62, _), (63, _), (70, _)]) (m25.to ⟨il, il, il, il, il, il, il, il, il, il, il, il, trivial⟩) m25 (by kernel_rfl) (fun w26 hP26 m26 => ?_); clear m25
 refine goR hP26 [0, 1, 2, 3, 4, 5, 6, 7, 8] [1, 2, 7] 9 0 511 Hz (m26.to ⟨il, il, il, il, il, il, il, il, il, il, il, il, trivial⟩) (.fieldAddr (off := 4) rfl Tryz.underlying55 rfl (s := 0) (by kernel_rfl) rfl <| .loadB1 hh (i := 70) rfl rfl rfl Tryz.underlying3 rfl <| .loadB1 hh (i := 61) rfl rfl rfl Tryz.underlying33 rfl <| .nilCheck rfl <| .fieldAddr (off := 0) rfl Tryz.underlying86 rfl (s := 4) (by kernel_rfl) rfl <| .fieldAddr (off := 2) rfl Tryz.underlying81 rfl (s := 1) (by kernel_rfl) rfl <| .fieldAddr (off := 2) rfl Tryz.underlying25 rfl (s := 0) (by kernel_rfl) rfl <| .loadB1 hh (i := 1) rfl rfl rfl Tryz.underlying3 rfl <| .gtr rfl rfl <| .nil) ?_
 clear Hz Az; intro Az Hz
 refine wpAnyE_done (by kernel_rfl) ?_ _
 refine hK3 _ _ ?_; clear hK3; try clear K3
 refine bool_cases Hz (t := 13) rfl ?_ ?_
 ·
  clear Hz; intro hb36 Hz
  try simp only [Q1x, Q2x, Q3x, Q4x, Q5x, Q6x, Q7x, Q8x, Q9x, Q0x, Qax, Qbx] at hb36
  refine wp_cond_true (Hz.ev (x := .tmp 13) rfl) ?_
  replace Hz : Has 36 [(1, _), (2, _), (3, _), (4, _), (13, _)] Az := Hz.only [1, 2, 3, 4, 13]
  refine wp_region_lit ?_
  refine goCh Hz (.loadB1 m26 (i := 61) rfl rfl rfl Tryz.underlying33 rfl <| .fieldAddr (off := 4) rfl Tryz.underlying55 rfl (s := 0) (by kernel_rfl) rfl <| .loadB1 m26 (i := 70) rfl rfl rfl Tryz.underlying3 rfl <| .nil) ?_
  clear Hz Az; intro Az Hz
  refine wpList_plain rfl (fun K hK => ?_)
  refine e_call Hz Tryz.func140 rfl rfl rfl rfl (rdown_s _ R s p te _ (by have := hk.rs; omega) (m26.into [(1, 1), (2, 2), (3, 3), (4, 4), (5, 5), (6, 6), (7, 7), (8, 8)] (by decide) rfl)) ?_
  rintro e w41 ⟨p1, rfl, hm41⟩
  have mx41 := m26.back hm41 [(1, 1), (2, 2), (3, 3), (4, 4), (5, 5), (6, 6), (7, 7), (8, 8)] (by decide); clear hm41 m26
  have m41 : MemOk _ _ [(1, _), (2, _), (3, _), (4, _), (5, _), (6, _), (7, _), (8, _), (61, _), (62, _), (63, _), (70, _)] _ := mx41.only [1, 2, 3, 4, 5, 6, 7, 8, 61, 62, 63, 70]; clear mx41
  refine ⟨_, rfl, ?_⟩; clear Hz Az; intro Az Hz
  refine hK _ _ ?_; clear hK K
  refine wpList_nil ?_
  show K1 _ _
  exact hC1 _ _ ⟨_, _, _, dn_yes s hb36, Hz.only [1, 2, 3, 4], m41.ren [(30, 70), (61, 61), (62, 62), (63, 63), (1, 1), (2, 2), (3, 3), (4, 4), (5, 5), (6, 6), (7, 7), (8, 8)] (by decide)⟩
 ·
  clear Hz; intro hb36 Hz
  try simp only [Q1x, Q2x, Q3x, Q4x, Q5x, Q6x, Q7x, Q8x, Q9x, Q0x, Qax, Qbx] at hb36
  refine wp_cond_false (Hz.ev (x := .tmp 13) rfl) ?_
  refine wp_skip ?_
  show K1 _ _
  exact hC1 _ _ ⟨_, _, _, dn_no s hb36, Hz.only [1, 2, 3, 4], m26.ren [(30, 70), (61, 61), (62, 62), (63, 63), (1, 1), (2, 2), (3, 3), (4, 4), (5, 5), (6, 6), (7, 7), (8, 8)] (by decide)⟩
theorem rRecvVoteAny_s (X : Cx) (R : Nat) (s : RS) (p : RP) (gm f t te ix lt co : Int) (ok : Bool) (w0 : World) (hk : ROk s) (hg : gm = s.x.gr) (ht : t = s.x.id) (hf : f ≠ s.x.id) (hkd : ROk (dnS s te)) (m0 : MemOk X w0 (rfM R s p) w0) :
   Calls Tryz.prog 23 #[.pointer (some ⟨R, 0, none⟩), .agg #[.int .i64 4, .int .i64 gm, .int .i64 f, .int .i64 t, .int .i64 te, .int .i64 ix, .int .i64 lt, .int .i64 co, .bool ok, .slice none 0 0, .int .i64 0, .int .i64 0, .slice none 0 0, .slice none 0 0, .slice none 0 0, .int .i64 0, .int .i64 0, .int .i64 0, .int .i64 0]] w0 fun e w' => ∃ p' o', e = .returned (.agg #[.slice o'.pm ((voteOkP s f te ok).ms.map rmD).length o'.cm, .slice o'.pq ((voteOkP s f te ok).rs.map rrD).length o'.cq, .bool (voteOkP s f te ok).re]) ∧ MemOk X w0 (ouM (voteOkP s f te ok) o' (rfM R (clrS (voteOkP s f te ok)) (nilP p'))) w' := by
 refine enter (fn := Tryz.f23) Tryz.func23 rfl Tryz.ntmps23 rfl (fun Az Hz => ?_)
 simp only [List.zipIdx_cons, List.zipIdx_nil, List.map_cons, List.map_nil, Nat.reduceAdd, Nat.zero_add] at Hz
 refine wp_seq_k (fun K0 hK0 => ?_)
 refine wp_region_lit ?_
 refine wpList_plain rfl (fun K hK => ?_)
 refine e_box Hz m0 70 (cs := [_, _, _, _, _, _, _, _, _, _, _, _, _, _, _, _, _, _, _]) rfl rfl rfl ?_
 clear Hz Az m0; intro g1 Az w2 Hz m2 hB2 hg2
 clear hB2 hg2
 refine hK _ _ ?_; clear hK K
 refine wpList_plain rfl (fun K hK => ?_)
 refine e_alloc Hz m2 71 zc46rpVoteAny rfl ?_
 clear Hz Az m2; intro g3 Az w4 Hz m4 hB4 hg4
 clear hB4 hg4
 refine hK _ _ ?_; clear hK K
 refine wpList_nil ?_
 refine hK0 _ _ ?_; clear hK0; try clear K0
 refine wp_seq_k (fun K1 hK1 => ?_)
 refine wp_seq_k (fun K2 hK2 => ?_)
 have m5 : MemOk _ _ [(1, _), (2, _), (3, _), (4, _), (5, _), (6, _), (7, _), (8, _), (70, _), (71, _)] _ := m4.only [1, 2, 3, 4, 5, 6, 7, 8, 70, 71]; clear m4
 refine region_p 28 (B := [(1, _), (2, _), (3, _), (4, _), (5, _), (6, _), (7, _), (8, _), (70, _), (71, _)]) (m5.to ⟨il, il, il, il, il, il, il, il, il, il, trivial⟩) m5 (by kernel_rfl) (fun w6 hP6 m6 => ?_); clear m5
 refine goR hP6 [0, 1, 2, 3, 4, 5, 6, 7, 8] [1, 6] 9 0 511 Hz (m6.to ⟨il, il, il, il, il, il, il, il, il, il, trivial⟩) (.fieldAddr (off := 1) rfl Tryz.underlying55 rfl (s := 0) (by kernel_rfl) rfl <| .loadB1 hh (i := 70) rfl rfl rfl Tryz.underlying3 rfl <| .move rfl <| .nilCheck rfl <| .fieldAddr (off := 0) rfl Tryz.underlying86 rfl (s := 4) (by kernel_rfl) rfl <| .fieldAddr (off := 1) rfl Tryz.underlying81 rfl (s := 0) (by kernel_rfl) rfl <| .loadB1 hh (i := 1) rfl rfl rfl Tryz.underlying3 rfl <| .neq rfl rfl <| .move rfl <| .nil) ?_
 clear Hz Az; intro Az Hz
 refine bool_cases Hz (t := 14) rfl ?_ ?_
 · intro hb _; exact absurd hb (by simp; omega)
 clear Hz; intro _ Hz
 refine goR hP6 [9, 10, 11, 12, 13, 14, 15, 16, 17, 18] [10, 15] 10 511 524287 Hz (m6.to ⟨il, il, il, il, il, il, il, il, il, il, trivial⟩) (.fieldAddr (off := 3) rfl Tryz.underlying55 rfl (s := 0) (by kernel_rfl) rfl <| .loadB1 hh (i := 70) rfl rfl rfl Tryz.underlying3 rfl <| .move rfl <| .nilCheck rfl <| .fieldAddr (off := 0) rfl Tryz.underlying86 rfl (s := 4) (by kernel_rfl) rfl <| .fieldAddr (off := 0) rfl Tryz.underlying81 rfl (s := 0) (by kernel_rfl) rfl <| .loadB1 hh (i := 1) rfl rfl rfl Tryz.underlying3 rfl <| .neq rfl rfl <| .pickF rfl rfl <| .move rfl <| .nil) ?_
 clear Hz Az; intro Az Hz
 refine bool_cases Hz (t := 24) rfl ?_ ?_
 · intro hb _; exact absurd hb (by simp; omega)
 clear Hz; intro _ Hz
 refine goR hP6 [19, 20, 21, 22, 23, 24, 25, 26, 27] [20, 25] 9 524287 268435455 Hz (m6.to ⟨il, il, il, il, il, il, il, il, il, il, trivial⟩) (.fieldAddr (off := 2) rfl Tryz.underlying55 rfl (s := 0) (by kernel_rfl) rfl <| .loadB1 hh (i := 70) rfl rfl rfl Tryz.underlying3 rfl <| .move rfl <| .nilCheck rfl <| .fieldAddr (off := 0) rfl Tryz.underlying86 rfl (s := 4) (by kernel_rfl) rfl <| .fieldAddr (off := 0) rfl Tryz.underlying81 rfl (s := 0) (by kernel_rfl) rfl <| .loadB1 hh (i := 1) rfl rfl rfl Tryz.underlying3 rfl <| .eql rfl rfl <| .pickF rfl rfl <| .nil) ?_
 clear Hz Az; intro Az Hz
 refine wpAnyE_done (by kernel_rfl) ?_ _
 refine hK2 _ _ ?_; clear hK2; try clear K2
 refine bool_cases Hz (t := 33) rfl ?_ ?_
 · intro hb _; exact absurd hb (by simp; omega)
 clear Hz; intro _ Hz
 refine wp_cond_false (Hz.ev (x := .tmp 33) rfl) ?_
 refine wp_skip ?_
 refine hK1 _ _ ?_; clear hK1; try clear K1
 refine wp_seq_k (fun K3 hK3 => ?_)
 replace Hz : Has 46 [(0, _), (3, _), (4, _)] Az := Hz.only [0, 3, 4]
 refine wp_seq_k (fun K4 hK4 => ?_)
 refine wp_region_lit ?_
 refine goCh Hz (.move rfl <| .fieldAddr (off := 0) rfl Tryz.underlying55 rfl (s := 0) (by kernel_rfl) rfl <| .loadB1 m6 (i := 70) rfl rfl rfl Tryz.underlying3 rfl <| .nil) ?_
 clear Hz Az; intro Az Hz
 refine wpList_plain rfl (fun K hK => ?_)
 refine e_call Hz Tryz.func60 rfl rfl rfl rfl (rhandler4_s _ R _ (m6.into [] (by decide) rfl)) ?_
 rintro e w45 ⟨B1, B2, B3, rfl, hm45⟩
 have mx45 := m6.back hm45 [(61, 61), (62, 62), (63, 63)] (by decide); clear hm45 m6
 have m45 : MemOk _ _ [(61, _), (62, _), (63, _), (1, _), (2, _), (3, _), (4, _), (5, _), (6, _), (7, _), (8, _), (70, _), (71, _)] _ := mx45.only [61, 62, 63, 1, 2, 3, 4, 5, 6, 7, 8, 70, 71]; clear mx45
 refine ⟨_, rfl, ?_⟩; clear Hz Az; intro Az Hz
 refine hK _ _ ?_; clear hK K
 refine goCh Hz (.assign rfl .nil) ?_
 clear Hz Az; intro Az Hz
 refine wpList_nil ?_
 refine hK4 _ _ ?_; clear hK4; try clear K4
 refine regS Hz (.move rfl <| .c rfl (fun _ h_ => y_neqF h_ rfl rfl Tryz.underlying106) <| .nil) ?_
 clear Hz Az; intro Az Hz
 refine wp_cond_true (Hz.ev (x := .tmp 40) rfl) ?_
 replace Hz : Has 46 [(0, _), (3, _), (4, _), (5, _)] Az := Hz.only [0, 3, 4, 5]
 refine wp_region_lit ?_
 refine goCh Hz (.move rfl <| .loadBR m45 (i := 70) rfl rfl Tryz.underlying55 rfl sz55rpVoteAny (by simp) (by dsimp only [List.drop, List.take] <;> rfl) <| .nil) ?_
 clear Hz Az; intro Az Hz
 refine wpList_plain rfl (fun K hK => ?_)
 refine e_callC Hz rfl Tryz.func142 rfl rfl rfl rfl (rqVoteAny_s _ R s p gm f t te ix lt co ok B1 B2 B3 _ hk hkd (m45.into [(61, 61), (62, 62), (63, 63), (1, 1), (2, 2), (3, 3), (4, 4), (5, 5), (6, 6), (7, 7), (8, 8)] (by decide) rfl)) ?_
 rintro e w53 ⟨p2, rfl, hm53⟩
 have mx53 := m45.back hm53 [(1, 1), (2, 2), (3, 3), (4, 4), (5, 5), (6, 6), (7, 7), (8, 8)] (by decide); clear hm53 m45
 have m53 : MemOk _ _ [(1, _), (2, _), (3, _), (4, _), (5, _), (6, _), (7, _), (8, _), (70, _), (71, _)] _ := mx53.only [1, 2, 3, 4, 5, 6, 7, 8, 70, 71]; clear mx53
 refine ⟨_, rfl, ?_⟩; clear Hz Az; intro Az Hz
 refine hK _ _ ?_; clear hK K
 refine wpList_nil ?_
 refine hK3 _ _ ?_; clear hK3; try clear K3
 refine wp_seq_k (fun K5 hK5 => ?_)
 refine wp_region_lit ?_
 refine goCh Hz (.move rfl .nil) ?_
 clear Hz Az; intro Az Hz
 refine wpList_plain rfl (fun K hK => ?_)
 refine e_call Hz Tryz.func47 rfl rfl rfl rfl (rtaken_s _ R (voteOkP s f te ok) p2 _ (m53.into [(1, 1), (2, 2), (3, 3), (4, 4), (5, 5), (6, 6), (7, 7), (8, 8)] (by decide) rfl)) ?_
 rintro e w57 ⟨p9, o9, rfl, hm57⟩
 have mx57 := m53.back hm57 [(1, 1), (2, 2), (3, 3), (4, 4), (5, 5), (6, 6), (7, 7), (8, 8), (11, 11), (12, 12)] (by decide); clear hm57 m53
 have m57 : MemOk _ _ [(1, _), (2, _), (3, _), (4, _), (5, _), (6, _), (7, _), (8, _), (11, _), (12, _), (70, _), (71, _)] _ := mx57.only [1, 2, 3, 4, 5, 6, 7, 8, 11, 12, 70, 71]; clear mx57
 refine ⟨_, rfl, ?_⟩; clear Hz Az; intro Az Hz
 refine hK _ _ ?_; clear hK K
 refine wpList_plain rfl (fun K hK => ?_)
 refine e_storeW Hz m57 71 rfl rfl rfl rfl rfl sz46rpVoteAny ?_
 clear m57; intro w59 m59 hB59
 clear hB59
 refine hK _ _ ?_; clear hK K
 refine wpList_nil ?_
 refine hK5 _ _ ?_; clear hK5; try clear K5
 refine wp_ret ?_
 try dsimp only [Exit.then, Exit.inBlock]
 refine (retC (fn := Tryz.f23) Hz m59 (i := 71) rfl rfl rfl Tryz.underlying46 rfl sz46rpVoteAny ?_)
 exact ⟨p9, o9, rfl, m59.only [11, 12, 1, 2, 3, 4, 5, 6, 7, 8]⟩
end
end Go.Proofs.YtndnnlbdnjndiaaGreat.K
