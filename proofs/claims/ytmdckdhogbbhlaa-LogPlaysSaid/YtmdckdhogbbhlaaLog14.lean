/- alike: a log and the reference's. -/
import Derived.Test.YtmdckdhogbbhlaaLog13
import Derived.Test.YtmdckdhogbbhlaaLog9
import Derived.Test.YtmdckdhogbbhlaaAb16
namespace Go.Proofs.Ytmdckdhogbbhlaa.K
open Go.ChangeShapes Go.WideShapes Go.ChangeAt Go.RowKit
set_option linter.unusedVariables false
set_option linter.unusedSimpArgs false

theorem fl32eo : flatS Try.prog 32 [.int .i64 0, .int .i64 0, .int .i64 0, .slice none 0 0] = true := by kernel_rfl
theorem inf5eo : (Try.prog.info? 5).map (fun i => (i.zero, i.size, i.bytes)) = some (some (.int .u8 0), 1, 1) := by kernel_rfl
theorem inf32eo : (Try.prog.info? 32).map (fun i => (i.zero, i.size, i.bytes)) = some (some (.agg #[.int .i64 0, .int .i64 0, .int .i64 0, .slice none 0 0]), 4, 48) := by kernel_rfl
theorem sz3eo : (Try.prog.info? 3).map (·.size) = some 1 := by kernel_rfl
theorem sz5eo : (Try.prog.info? 5).map (·.size) = some 1 := by kernel_rfl
theorem sz23eo : (Try.prog.info? 23).map (·.size) = some 1 := by kernel_rfl
theorem sz32eo : (Try.prog.info? 32).map (·.size) = some 4 := by kernel_rfl
theorem zc32eo : ((Try.prog.info? 32).bind (·.zero)).map (·.cells.toList) = some [.int .i64 0, .int .i64 0, .int .i64 0, .slice none 0 0] := by kernel_rfl

theorem sz28ak : (Try.prog.info? 28).map (·.size) = some 4 := by kernel_rfl

theorem confTo_len9 {cf : List Int} (h : cf.length ≤ 900) : ∀ (l : List (Int × Int × Int × List Int)), (confTo cf l).length ≤ 900 := by
  intro l
  induction l generalizing cf with
  | nil => exact h
  | cons e l ih =>
    show (confTo (confStep cf e) l).length ≤ 900
    refine ih ?_
    unfold confStep; split
    · exact Nat.le_trans (chgL_len _ _) (by decide)
    · exact h
theorem confL_len9 {cf : List Int} (h : cf.length ≤ 900) (es : List (Int × Int × Int × List Int)) (i : Int) : (confL cf es i).length ≤ 900 := confTo_len9 h _
set_option maxRecDepth 100000
set_option maxHeartbeats 4000000
theorem ents_own (F : Int) (l : List Int) (p : Option Addr) (c : Nat) (w0 : World) (hl0 : Rd (fun _ => True) w0 (.slice p l.length c) (.ns .u8 l)) (hF : 0 ≤ F ∧ F ≤ 1000000) (hn : l.length ≤ 256) (hb : ∀ j, j < l.length → 0 ≤ l.getD j 0 ∧ l.getD j 0 ≤ 255) :
    Calls Try.prog 8 #[.int .i64 F, .slice p l.length c] w0 fun e w' => ∃ po co, e = .returned (.slice po ((entsN F l l.length).map entD).length co) ∧ RowOk w0.heap.size (fun b => Out (fun _ => False) w0 b ∧ (Value.slice po ((entsN F l l.length).map entD).length co).ownBlock ≠ some b) w' (.slice po ((entsN F l l.length).map entD).length co) 32 4 ((entsN F l l.length).map entD) ∧ Below w0.heap.size w0 w' := by
  refine enter (fn := Try.f8) Try.func8 rfl Try.ntmps8 rfl (fun a0 ha0 => ?_)
  simp only [List.zipIdx_cons, List.zipIdx_nil, List.map_cons, List.map_nil, Nat.reduceAdd, Nat.zero_add] at ha0
  have m0 := MemOk.start (fun _ => False) w0
  refine wp_seq_k (fun K0 hK0 => ?_)
  refine wp_region_lit ?_
  refine st_y ha0 rfl (y_assign ha0 rfl) ?_
  clear ha0 a0; intro a1 ha1
  refine wpList_nil ?_
  refine hK0 _ _ ?_; clear hK0; try clear K0
  refine wp_seq_k (fun K1 hK1 => ?_)
  refine wp_region_lit ?_
  have m2 := m0.nilR 2 32 4
  clear m0
  refine st_y ha1 rfl (y_assign ha1 rfl) ?_
  clear ha1 a1; intro a3 ha3
  refine wpList_nil ?_
  refine hK1 _ _ ?_; clear hK1; try clear K1
  refine wp_seq_k (fun K2 hK2 => ?_)
  refine wp_region_lit ?_
  refine st_y ha3 rfl (y_assign ha3 rfl) ?_
  clear ha3 a3; intro a4 ha4
  refine wpList_nil ?_
  refine hK2 _ _ ?_; clear hK2; try clear K2
  refine wp_seq_k (fun K3 hK3 => ?_)
  refine wp_seq_k (fun K4 hK4 => ?_)
  refine wp_region_lit ?_
  refine st_y ha4 rfl (y_assign ha4 rfl) ?_
  clear ha4 a4; intro a5 ha5
  refine wpList_nil ?_
  refine hK4 _ _ ?_; clear hK4; try clear K4
  refine wp_block ?_
  refine wp_loop_ghost (fun g a w => ∃ (k : Nat) (po : Option Addr) (co : Nat), k ≤ l.length ∧ g = l.length - k ∧ Has 71 [(0, .int .i64 F), (1, .slice p l.length c), (5, .slice po ((entsN F l k).map entD).length co), (6, .int .i64 (termN l k)), (7, .int .i64 k)] a ∧ MemOk (cn w0) w0 [(2, .row (.slice po ((entsN F l k).map entD).length co) 32 4 ((entsN F l k).map entD))] w) (l.length) ?_ ?_
  · exact ⟨0, none, 0, Nat.zero_le _, rfl, ha5.only [0, 1, 5, 6, 7], m2.only [2]⟩
  · skip
    clear ha5 m2
    rintro g a6 w6 ⟨k, po, co, hkl, hg, ha6, m6⟩
    refine wp_seq_k (fun K5 hK5 => ?_)
    refine wp_seq_k (fun K6 hK6 => ?_)
    refine wp_region_lit ?_
    refine st_y ha6 rfl (y_move ha6 rfl) ?_
    clear ha6 a6; intro a7 ha7
    refine st_y ha7 rfl (y_move ha7 rfl) ?_
    clear ha7 a7; intro a8 ha8
    refine st_y ha8 rfl (y_len ha8 rfl Try.underlying23) ?_
    clear ha8 a8; intro a9 ha9
    refine st_y ha9 rfl (y_lss ha9 rfl rfl) ?_
    clear ha9 a9; intro a10 ha10
    refine wpList_nil ?_
    refine hK6 _ _ ?_; clear hK6; try clear K6
    refine bool_cases ha10 (t := 12) rfl (fun hb11 ha11 => ?_) (fun hb11 ha11 => ?_)
    · skip
      clear ha10
      try simp only [decide_eq_true_eq, decide_eq_false_iff_not, Bool.not_eq_true, Bool.not_eq_false, Bool.not_eq_eq_eq_not, Bool.not_true, Bool.not_false, Bool.not_not, Int.not_lt, Int.not_le, ne_eq, Decidable.not_not] at hb11
      have hk : k < l.length := by omega
      have hx := hb k hk
      have ht := termN_bd l hb k (by omega)
      have ht1 : termN l k + l.getD k 0 % 5 / 4 = termN l (k + 1) := rfl
      have ht2 := termN_bd l hb (k + 1) hk
      refine wp_cond_true (ha11.ev (x := .tmp 12) rfl) ?_
      refine wp_skip ?_
      refine hK5 _ _ ?_; clear hK5; try clear K5
      refine wp_seq_k (fun K7 hK7 => ?_)
      refine wp_block ?_
      refine wp_seq_k (fun K8 hK8 => ?_)
      refine wp_region_lit ?_
      refine st_y ha11 rfl (y_move ha11 rfl) ?_
      clear ha11 a10; intro a12 ha12
      refine st_y ha12 rfl (y_move ha12 rfl) ?_
      clear ha12 a12; intro a13 ha13
      refine st_y ha13 rfl (y_move ha13 rfl) ?_
      clear ha13 a13; intro a14 ha14
      obtain ⟨gx15, ox15, hp15, hl15, hrg15⟩ := hl0.extN (k) hk
      cases hp15; clear hl15
      refine st_y ha14 rfl (y_idx ha14 rfl rfl Try.underlying23 sz5eo (k) rfl hk) ?_
      clear ha14 a14; intro a16 ha16
      refine st_y ha16 rfl (y_loadAt1 ha16 (hrg15 m6 rfl) (q := 0) rfl rfl rfl Try.underlying5 rfl) ?_
      clear ha16 a16; intro a17 ha17
      refine st_y ha17 rfl (y_rem ha17 rfl rfl (by decide) (Int.tmod_eq_emod_of_nonneg (by omega))) ?_
      clear ha17 a17; intro a18 ha18
      refine st_y ha18 rfl (y_quo ha18 rfl rfl (by decide) (r := l.getD k 0 % 5 / 4) (by rw [Int.tdiv_eq_ediv_of_nonneg (by omega)]; exact IntWalk.u8_in _ (by omega))) ?_
      clear ha18 a18; intro a19 ha19
      refine st_y ha19 rfl (y_conv ha19 rfl Try.underlying5 Try.underlying3 (IntWalk.i64_in _ (by omega))) ?_
      clear ha19 a19; intro a20 ha20
      refine st_y ha20 rfl (y_add ha20 rfl rfl (r := termN l (k + 1)) (by rw [ht1]; exact IntWalk.i64_in _ (by omega))) ?_
      clear ha20 a20; intro a21 ha21
      refine st_y ha21 rfl (y_assign ha21 rfl) ?_
      clear ha21 a21; intro a22 ha22
      refine wpList_nil ?_
      refine hK8 _ _ ?_; clear hK8; try clear K8
      refine wp_seq_k (fun K9 hK9 => ?_)
      have ha23 : Has 71 [(0, _), (1, _), (5, _), (6, _), (7, _)] a22 := ha22.only [0, 1, 5, 6, 7]; clear ha22
      refine wp_region_lit ?_
      refine st_y ha23 rfl (y_move ha23 rfl) ?_
      clear ha23 a22; intro a24 ha24
      refine st_y ha24 rfl (y_move ha24 rfl) ?_
      clear ha24 a24; intro a25 ha25
      refine st_y ha25 rfl (y_add ha25 rfl rfl (IntWalk.i64_in _ (by omega))) ?_
      clear ha25 a25; intro a26 ha26
      refine st_y ha26 rfl (y_move ha26 rfl) ?_
      clear ha26 a26; intro a27 ha27
      refine st_y ha27 rfl (y_move ha27 rfl) ?_
      clear ha27 a27; intro a28 ha28
      refine st_y ha28 rfl (y_move ha28 rfl) ?_
      clear ha28 a28; intro a29 ha29
      obtain ⟨gx30, ox30, hp30, hl30, hrg30⟩ := hl0.extN (k) hk
      cases hp30; clear hl30
      refine st_y ha29 rfl (y_idx ha29 rfl rfl Try.underlying23 sz5eo (k) rfl hk) ?_
      clear ha29 a29; intro a31 ha31
      refine st_y ha31 rfl (y_loadAt1 ha31 (hrg30 m6 rfl) (q := 0) rfl rfl rfl Try.underlying5 rfl) ?_
      clear ha31 a31; intro a32 ha32
      refine st_y ha32 rfl (y_quo ha32 rfl rfl (by decide) (r := l.getD k 0 / 5) (by rw [Int.tdiv_eq_ediv_of_nonneg (by omega)]; exact IntWalk.u8_in _ (by omega))) ?_
      clear ha32 a32; intro a33 ha33
      refine st_y ha33 rfl (y_conv ha33 rfl Try.underlying5 Try.underlying3 (IntWalk.i64_in _ (by omega))) ?_
      clear ha33 a33; intro a34 ha34
      refine st_y ha34 rfl (y_rem ha34 rfl rfl (by decide) (Int.tmod_eq_emod_of_nonneg (by omega))) ?_
      clear ha34 a34; intro a35 ha35
      refine st_y ha35 rfl (y_build ha35 rfl zc32eo fl32eo rfl (by dsimp only [setL, List.set] <;> rfl)) ?_
      clear ha35 a35; intro a36 ha36
      refine wpList_plain rfl (fun K hK => ?_)
      refine e_alloc ha36 m6 100 zc32eo rfl ?_
      clear ha36 a36 m6; intro g37 a38 w38 ha38 m38 hB38 hg38
      clear hB38 hg38
      refine hK _ _ ?_; clear hK K
      refine wpList_plain rfl (fun K hK => ?_)
      refine e_storeW ha38 m38 100 rfl rfl rfl rfl rfl sz32eo ?_
      clear m38; intro w39 m39 hB39
      clear hB39
      refine hK _ _ ?_; clear hK K
      refine wpList_nil ?_
      refine hK9 _ _ ?_; clear hK9; try clear K9
      refine wp_seq_k (fun K10 hK10 => ?_)
      refine wp_seq_k (fun K11 hK11 => ?_)
      have ha40 : Has 71 [(0, _), (1, _), (5, _), (6, _), (7, _), (8, _)] a38 := ha38.only [0, 1, 5, 6, 7, 8]; clear ha38
      refine wp_region_lit ?_
      refine st_y ha40 rfl (y_fieldAddr ha40 (off := 2) rfl Try.underlying32 rfl (s := 0) (by kernel_rfl) rfl) ?_
      clear ha40 a38; intro a41 ha41
      refine st_y ha41 rfl (y_loadB1 ha41 m39 (i := 100) rfl rfl rfl Try.underlying3 rfl) ?_
      clear ha41 a41; intro a42 ha42
      refine st_y ha42 rfl (y_eql ha42 rfl rfl) ?_
      clear ha42 a42; intro a43 ha43
      refine wpList_nil ?_
      refine hK11 _ _ ?_; clear hK11; try clear K11
      refine bool_cases ha43 (t := 38) rfl (fun hb44 ha44 => ?_) (fun hb44 ha44 => ?_)
      · skip
        clear ha43
        try simp only [decide_eq_true_eq, decide_eq_false_iff_not, Bool.not_eq_true, Bool.not_eq_false, Bool.not_eq_eq_eq_not, Bool.not_true, Bool.not_false, Bool.not_not, Int.not_lt, Int.not_le, ne_eq, Decidable.not_not] at hb44
        refine wp_cond_true (ha44.ev (x := .tmp 38) rfl) ?_
        refine wp_region_lit ?_
        refine st_y ha44 rfl (y_move ha44 rfl) ?_
        clear ha44 a43; intro a45 ha45
        refine st_y ha45 rfl (y_move ha45 rfl) ?_
        clear ha45 a45; intro a46 ha46
        obtain ⟨gx47, ox47, hp47, hl47, hrg47⟩ := hl0.extN (k) hk
        cases hp47; clear hl47
        refine st_y ha46 rfl (y_idx ha46 rfl rfl Try.underlying23 sz5eo (k) rfl hk) ?_
        clear ha46 a46; intro a48 ha48
        refine st_y ha48 rfl (y_loadAt1 ha48 (hrg47 m39 rfl) (q := 0) rfl rfl rfl Try.underlying5 rfl) ?_
        clear ha48 a48; intro a49 ha49
        refine st_y ha49 rfl (y_move ha49 rfl) ?_
        clear ha49 a49; intro a50 ha50
        refine st_y ha50 rfl (y_conv ha50 rfl Try.underlying3 Try.underlying5 (IntWalk.u8_in _ (by omega))) ?_
        clear ha50 a50; intro a51 ha51
        refine wpList_plain rfl (fun K hK => ?_)
        refine e_litN ha51 m39 101 (k := .u8) rfl rfl Try.underlying23 inf5eo rfl rfl rfl rfl ?_
        clear ha51 a51 m39; intro g52 a53 w53 ha53 m53 
        refine hK _ _ ?_; clear hK K
        refine st_y ha53 rfl (y_fieldAddr ha53 (off := 3) rfl Try.underlying32 rfl (s := 0) (by kernel_rfl) rfl) ?_
        clear ha53 a53; intro a54 ha54
        refine wpList_plain rfl (fun K hK => ?_)
        refine e_store1 ha54 m53 100 rfl rfl rfl rfl rfl sz23eo (by dsimp only [List.set] <;> rfl) ?_
        clear m53; intro w55 m55 hB55
        clear hB55
        refine hK _ _ ?_; clear hK K
        refine wpList_nil ?_
        refine hK10 _ _ ?_; clear hK10; try clear K10
        refine wp_seq_k (fun K12 hK12 => ?_)
        refine wp_seq_k (fun K13 hK13 => ?_)
        have ha56 : Has 71 [(0, _), (1, _), (5, _), (6, _), (7, _), (8, _), (38, _)] a54 := ha54.only [0, 1, 5, 6, 7, 8, 38]; clear ha54
        refine wp_region_lit ?_
        refine st_y ha56 rfl (y_move ha56 rfl) ?_
        clear ha56 a54; intro a57 ha57
        refine st_y ha57 rfl (y_move ha57 rfl) ?_
        clear ha57 a57; intro a58 ha58
        obtain ⟨gx59, ox59, hp59, hl59, hrg59⟩ := hl0.extN (k) hk
        cases hp59; clear hl59
        refine st_y ha58 rfl (y_idx ha58 rfl rfl Try.underlying23 sz5eo (k) rfl hk) ?_
        clear ha58 a58; intro a60 ha60
        refine st_y ha60 rfl (y_loadAt1 ha60 (hrg59 m55 rfl) (q := 0) rfl rfl rfl Try.underlying5 rfl) ?_
        clear ha60 a60; intro a61 ha61
        refine st_y ha61 rfl (y_gtr ha61 rfl rfl) ?_
        clear ha61 a61; intro a62 ha62
        refine wpList_nil ?_
        refine hK13 _ _ ?_; clear hK13; try clear K13
        refine bool_cases ha62 (t := 51) rfl (fun hb63 ha63 => ?_) (fun hb63 ha63 => ?_)
        · skip
          clear ha62
          try simp only [decide_eq_true_eq, decide_eq_false_iff_not, Bool.not_eq_true, Bool.not_eq_false, Bool.not_eq_eq_eq_not, Bool.not_true, Bool.not_false, Bool.not_not, Int.not_lt, Int.not_le, ne_eq, Decidable.not_not] at hb63
          refine wp_cond_true (ha63.ev (x := .tmp 51) rfl) ?_
          obtain ⟨gx65, ox65, hp65, hl65, hrg65⟩ := hl0.extN (k) hk
          cases hp65; clear hl65
          obtain ⟨gx67, ox67, hp67, hl67, hrg67⟩ := hl0.extN (k) hk
          cases hp67; clear hl67
          have m68 : MemOk _ _ [(2, _), (100, _), (101, _)] _ := m55.only [2, 100, 101]; clear m55
          refine region_m 15 (B := [(2, _), (100, .any _), (101, _)]) (m68.to ⟨.inl rfl, .inr ⟨_, _, _, rfl, rfl⟩, .inl rfl, trivial⟩) m68 (by kernel_rfl) (fun w69 mB69 m69 => ?_); clear m68 mB69
          refine d_y 0 ha63 rfl rfl (fun _ => (m69.to ⟨.inl rfl, .inr ⟨_, _, _, rfl, rfl⟩, .inl rfl, trivial⟩)) (by kernel_rfl) (by kernel_rfl) (by kernel_rfl) (by rfl) (fun _ _ _ h => h) (fun W => y_move ha63 rfl) ?_
          clear ha63 a62; intro a70 ha70
          refine d_y 1 ha70 rfl rfl (fun _ => (m69.to ⟨.inl rfl, .inr ⟨_, _, _, rfl, rfl⟩, .inl rfl, trivial⟩)) (by kernel_rfl) (by kernel_rfl) (by kernel_rfl) (by rfl) (fun _ _ _ h => h) (fun W => y_move ha70 rfl) ?_
          clear ha70 a70; intro a71 ha71
          refine d_y 2 ha71 rfl rfl (fun _ => (m69.to ⟨.inl rfl, .inr ⟨_, _, _, rfl, rfl⟩, .inl rfl, trivial⟩)) (by kernel_rfl) (by kernel_rfl) (by kernel_rfl) (by rfl) (fun _ _ _ h => h) (fun W => y_idx ha71 rfl rfl Try.underlying23 sz5eo (k) rfl hk) ?_
          clear ha71 a71; intro a72 ha72
          refine d_r 3 ha72 rfl rfl (m69.to ⟨.inl rfl, .inr ⟨_, _, _, rfl, rfl⟩, .inl rfl, trivial⟩) (by kernel_rfl) (by kernel_rfl) (by kernel_rfl) (by kernel_rfl) (by kernel_rfl) (fun _ _ _ h => h) (fun W hW => y_loadAt1 ha72 (hrg65 hW rfl) (q := 0) rfl rfl rfl Try.underlying5 rfl) ?_
          clear ha72 a72; intro a73 ha73
          refine d_y 4 ha73 rfl rfl (fun _ => (m69.to ⟨.inl rfl, .inr ⟨_, _, _, rfl, rfl⟩, .inl rfl, trivial⟩)) (by kernel_rfl) (by kernel_rfl) (by kernel_rfl) (by rfl) (fun _ _ _ h => h) (fun W => y_rem ha73 rfl rfl (by decide) (Int.tmod_eq_emod_of_nonneg (by omega))) ?_
          clear ha73 a73; intro a74 ha74
          refine d_y 5 ha74 rfl rfl (fun _ => (m69.to ⟨.inl rfl, .inr ⟨_, _, _, rfl, rfl⟩, .inl rfl, trivial⟩)) (by kernel_rfl) (by kernel_rfl) (by kernel_rfl) (by rfl) (fun _ _ _ h => h) (fun W => y_move ha74 rfl) ?_
          clear ha74 a74; intro a75 ha75
          refine d_y 6 ha75 rfl rfl (fun _ => (m69.to ⟨.inl rfl, .inr ⟨_, _, _, rfl, rfl⟩, .inl rfl, trivial⟩)) (by kernel_rfl) (by kernel_rfl) (by kernel_rfl) (by rfl) (fun _ _ _ h => h) (fun W => y_move ha75 rfl) ?_
          clear ha75 a75; intro a76 ha76
          refine d_y 7 ha76 rfl rfl (fun _ => (m69.to ⟨.inl rfl, .inr ⟨_, _, _, rfl, rfl⟩, .inl rfl, trivial⟩)) (by kernel_rfl) (by kernel_rfl) (by kernel_rfl) (by rfl) (fun _ _ _ h => h) (fun W => y_idx ha76 rfl rfl Try.underlying23 sz5eo (k) rfl hk) ?_
          clear ha76 a76; intro a77 ha77
          refine d_r 8 ha77 rfl rfl (m69.to ⟨.inl rfl, .inr ⟨_, _, _, rfl, rfl⟩, .inl rfl, trivial⟩) (by kernel_rfl) (by kernel_rfl) (by kernel_rfl) (by kernel_rfl) (by kernel_rfl) (fun _ _ _ h => h) (fun W hW => y_loadAt1 ha77 (hrg67 hW rfl) (q := 0) rfl rfl rfl Try.underlying5 rfl) ?_
          clear ha77 a77; intro a78 ha78
          refine d_y 9 ha78 rfl rfl (fun _ => (m69.to ⟨.inl rfl, .inr ⟨_, _, _, rfl, rfl⟩, .inl rfl, trivial⟩)) (by kernel_rfl) (by kernel_rfl) (by kernel_rfl) (by rfl) (fun _ _ _ h => h) (fun W => y_quo ha78 rfl rfl (by decide) (r := l.getD k 0 / 5) (by rw [Int.tdiv_eq_ediv_of_nonneg (by omega)]; exact IntWalk.u8_in _ (by omega))) ?_
          clear ha78 a78; intro a79 ha79
          refine d_y 10 ha79 rfl rfl (fun _ => (m69.to ⟨.inl rfl, .inr ⟨_, _, _, rfl, rfl⟩, .inl rfl, trivial⟩)) (by kernel_rfl) (by kernel_rfl) (by kernel_rfl) (by rfl) (fun _ _ _ h => h) (fun W => y_rem ha79 rfl rfl (by decide) (Int.tmod_eq_emod_of_nonneg (by omega))) ?_
          clear ha79 a79; intro a80 ha80
          refine d_y 12 ha80 rfl rfl (fun _ => (m69.to ⟨.inl rfl, .inr ⟨_, _, _, rfl, rfl⟩, .inl rfl, trivial⟩)) (by kernel_rfl) (by kernel_rfl) (by kernel_rfl) (by rfl) (fun _ _ _ h => h) (fun W => y_fieldAddr ha80 (off := 2) rfl Try.underlying32 rfl (s := 0) (by kernel_rfl) rfl) ?_
          clear ha80 a80; intro a81 ha81
          refine d_two 11 13 rfl rfl (by kernel_rfl) rfl rfl (fun K hK => ?_) (fun K hK => ?_)
          · skip
            refine e_litN ha81 m69 102 (k := .u8) rfl rfl Try.underlying23 inf5eo rfl rfl rfl rfl ?_
            clear ha81 a81 m69; intro g82 a83 w83 ha83 m83 
            refine hK _ _ (fun _ => (m83.to ⟨.inl rfl, .inr ⟨_, _, _, rfl, rfl⟩, .inl rfl, trivial⟩)) ?_; clear hK K
            refine stepE_only 13 rfl (by kernel_rfl) rfl (fun K hK => ?_)
            refine e_store1 ha83 m83 100 rfl rfl rfl rfl rfl sz3eo (by dsimp only [List.set] <;> rfl) ?_
            clear m83; intro w84 m84 hB84
            clear hB84
            refine hK _ _ (m84.to ⟨.inl rfl, .inr ⟨_, _, _, rfl, rfl⟩, .inl rfl, trivial⟩) ?_; clear hK K
            refine d_y 14 ha83 rfl rfl (fun _ => (m84.to ⟨.inl rfl, .inr ⟨_, _, _, rfl, rfl⟩, .inl rfl, trivial⟩)) (by kernel_rfl) (by kernel_rfl) (by kernel_rfl) (by rfl) (fun _ _ _ h => h) (fun W => y_fieldAddr ha83 (off := 3) rfl Try.underlying32 rfl (s := 0) (by kernel_rfl) rfl) ?_
            clear ha83 a83; intro a85 ha85
            refine stepE_end 15 rfl (by kernel_rfl) rfl (by rfl) (fun K hK => ?_)
            refine e_store1 ha85 m84 100 rfl rfl rfl rfl rfl sz23eo (by dsimp only [List.set] <;> rfl) ?_
            clear m84; intro w86 m86 hB86
            clear hB86
            refine hK _ _ ?_; clear hK K
            refine wpAnyE_done (by kernel_rfl) ?_ _
            refine hK12 _ _ ?_; clear hK12; try clear K12
            have ha87 : Has 71 [(0, _), (1, _), (5, _), (6, _), (7, _), (8, _), (38, _), (51, _)] a85 := ha85.only [0, 1, 5, 6, 7, 8, 38, 51]; clear ha85
            refine wp_region_lit ?_
            refine st_y ha87 rfl (y_move ha87 rfl) ?_
            clear ha87 a85; intro a88 ha88
            refine st_y ha88 rfl (y_loadBR ha88 m86 (i := 100) rfl rfl Try.underlying32 rfl sz32eo (by simp) (by dsimp only [List.drop, List.take] <;> rfl)) ?_
            clear ha88 a88; intro a89 ha89
            have m91 := m86.freezeN 102 rfl; clear m86
            refine wpList_plain rfl (fun K hK => ?_)
            refine e_litR ha89 m91 103 (mm := 4) rfl (.cons rfl rfl (.cons (.v _) (.cons (.v _) (.cons (.v _) (.cons (m91.rd (i := 102) rfl) .nil)))) <| .nil) Try.underlying29 inf32eo rfl rfl rfl rfl rfl ?_
            clear ha89 a89 m91; intro g90 a92 w92 ha92 m92 
            refine hK _ _ ?_; clear hK K
            have m94 := m92.freezeR 103 rfl; clear m92
            refine wpList_plain rfl (fun K hK => ?_)
            refine e_appR ha92 m94 2 rfl rfl rfl (m94.rd (i := 103) rfl) Try.underlying29 inf32eo rfl rfl (by decide) (by simp [entsN_len]; omega) rfl ?_
            clear ha92 a92 m94; intro p93 c93 a95 w95 ha95 m95 
            refine hK _ _ ?_; clear hK K
            refine st_y ha95 rfl (y_assign ha95 rfl) ?_
            clear ha95 a95; intro a96 ha96
            refine wpList_nil ?_
            refine hK7 _ _ ?_; clear hK7; try clear K7
            refine wp_region_lit ?_
            refine st_y ha96 rfl (y_move ha96 rfl) ?_
            clear ha96 a96; intro a97 ha97
            refine st_y ha97 rfl (y_add ha97 rfl rfl (r := ((k + 1 : Nat) : Int)) (by rw [IntWalk.i64_in _ (by omega)]; omega)) ?_
            clear ha97 a97; intro a98 ha98
            refine st_y ha98 rfl (y_assign ha98 rfl) ?_
            clear ha98 a98; intro a99 ha99
            refine wpList_nil ?_
            show ∃ n', n' < _ ∧ _
            have hE : (entsN F l k).map entD ++ [[D.v (.int .i64 (F + k)), .v (.int .i64 (termN l (k + 1))), .v (.int .i64 (2)), .ns .u8 [l.getD k 0 % 5, l.getD k 0 / 5 % 2]]] = (entsN F l (k + 1)).map entD := by
              rw [show entsN F l (k + 1) = entsN F l k ++ [entOf F (termN l (k + 1)) (l.getD k 0) k] from rfl, entOf_big hb63, List.map_append]; rfl
            rw [hE] at m95 ha99
            exact ⟨l.length - (k + 1), by omega, k + 1, _, _, by omega, rfl, ha99.only [0, 1, 5, 6, 7], m95.only [2]⟩
          · skip
            refine e_store1 ha81 m69 100 rfl rfl rfl rfl rfl sz3eo (by dsimp only [List.set] <;> rfl) ?_
            clear m69; intro w100 m100 hB100
            clear hB100
            refine hK _ _ (fun _ => (m100.to ⟨.inl rfl, .inr ⟨_, _, _, rfl, rfl⟩, .inl rfl, trivial⟩)) ?_; clear hK K
            refine stepE_only 11 rfl (by kernel_rfl) rfl (fun K hK => ?_)
            refine e_litN ha81 m100 102 (k := .u8) rfl rfl Try.underlying23 inf5eo rfl rfl rfl rfl ?_
            clear ha81 a81 m100; intro g101 a102 w102 ha102 m102 
            refine hK _ _ (m102.to ⟨.inl rfl, .inr ⟨_, _, _, rfl, rfl⟩, .inl rfl, trivial⟩) ?_; clear hK K
            refine d_y 14 ha102 rfl rfl (fun _ => (m102.to ⟨.inl rfl, .inr ⟨_, _, _, rfl, rfl⟩, .inl rfl, trivial⟩)) (by kernel_rfl) (by kernel_rfl) (by kernel_rfl) (by rfl) (fun _ _ _ h => h) (fun W => y_fieldAddr ha102 (off := 3) rfl Try.underlying32 rfl (s := 0) (by kernel_rfl) rfl) ?_
            clear ha102 a102; intro a103 ha103
            refine stepE_end 15 rfl (by kernel_rfl) rfl (by rfl) (fun K hK => ?_)
            refine e_store1 ha103 m102 100 rfl rfl rfl rfl rfl sz23eo (by dsimp only [List.set] <;> rfl) ?_
            clear m102; intro w104 m104 hB104
            clear hB104
            refine hK _ _ ?_; clear hK K
            refine wpAnyE_done (by kernel_rfl) ?_ _
            refine hK12 _ _ ?_; clear hK12; try clear K12
            have ha105 : Has 71 [(0, _), (1, _), (5, _), (6, _), (7, _), (8, _), (38, _), (51, _)] a103 := ha103.only [0, 1, 5, 6, 7, 8, 38, 51]; clear ha103
            refine wp_region_lit ?_
            refine st_y ha105 rfl (y_move ha105 rfl) ?_
            clear ha105 a103; intro a106 ha106
            refine st_y ha106 rfl (y_loadBR ha106 m104 (i := 100) rfl rfl Try.underlying32 rfl sz32eo (by simp) (by dsimp only [List.drop, List.take] <;> rfl)) ?_
            clear ha106 a106; intro a107 ha107
            have m109 := m104.freezeN 102 rfl; clear m104
            refine wpList_plain rfl (fun K hK => ?_)
            refine e_litR ha107 m109 103 (mm := 4) rfl (.cons rfl rfl (.cons (.v _) (.cons (.v _) (.cons (.v _) (.cons (m109.rd (i := 102) rfl) .nil)))) <| .nil) Try.underlying29 inf32eo rfl rfl rfl rfl rfl ?_
            clear ha107 a107 m109; intro g108 a110 w110 ha110 m110 
            refine hK _ _ ?_; clear hK K
            have m112 := m110.freezeR 103 rfl; clear m110
            refine wpList_plain rfl (fun K hK => ?_)
            refine e_appR ha110 m112 2 rfl rfl rfl (m112.rd (i := 103) rfl) Try.underlying29 inf32eo rfl rfl (by decide) (by simp [entsN_len]; omega) rfl ?_
            clear ha110 a110 m112; intro p111 c111 a113 w113 ha113 m113 
            refine hK _ _ ?_; clear hK K
            refine st_y ha113 rfl (y_assign ha113 rfl) ?_
            clear ha113 a113; intro a114 ha114
            refine wpList_nil ?_
            refine hK7 _ _ ?_; clear hK7; try clear K7
            refine wp_region_lit ?_
            refine st_y ha114 rfl (y_move ha114 rfl) ?_
            clear ha114 a114; intro a115 ha115
            refine st_y ha115 rfl (y_add ha115 rfl rfl (r := ((k + 1 : Nat) : Int)) (by rw [IntWalk.i64_in _ (by omega)]; omega)) ?_
            clear ha115 a115; intro a116 ha116
            refine st_y ha116 rfl (y_assign ha116 rfl) ?_
            clear ha116 a116; intro a117 ha117
            refine wpList_nil ?_
            show ∃ n', n' < _ ∧ _
            have hE : (entsN F l k).map entD ++ [[D.v (.int .i64 (F + k)), .v (.int .i64 (termN l (k + 1))), .v (.int .i64 (2)), .ns .u8 [l.getD k 0 % 5, l.getD k 0 / 5 % 2]]] = (entsN F l (k + 1)).map entD := by
              rw [show entsN F l (k + 1) = entsN F l k ++ [entOf F (termN l (k + 1)) (l.getD k 0) k] from rfl, entOf_big hb63, List.map_append]; rfl
            rw [hE] at m113 ha117
            exact ⟨l.length - (k + 1), by omega, k + 1, _, _, by omega, rfl, ha117.only [0, 1, 5, 6, 7], m113.only [2]⟩
        · skip
          clear ha62
          try simp only [decide_eq_true_eq, decide_eq_false_iff_not, Bool.not_eq_true, Bool.not_eq_false, Bool.not_eq_eq_eq_not, Bool.not_true, Bool.not_false, Bool.not_not, Int.not_lt, Int.not_le, ne_eq, Decidable.not_not] at hb63
          refine wp_cond_false (ha63.ev (x := .tmp 51) rfl) ?_
          refine wp_skip ?_
          refine hK12 _ _ ?_; clear hK12; try clear K12
          refine wp_region_lit ?_
          refine st_y ha63 rfl (y_move ha63 rfl) ?_
          clear ha63 a62; intro a118 ha118
          refine st_y ha118 rfl (y_loadBR ha118 m55 (i := 100) rfl rfl Try.underlying32 rfl sz32eo (by simp) (by dsimp only [List.drop, List.take] <;> rfl)) ?_
          clear ha118 a118; intro a119 ha119
          have m121 := m55.freezeN 101 rfl; clear m55
          refine wpList_plain rfl (fun K hK => ?_)
          refine e_litR ha119 m121 102 (mm := 4) rfl (.cons rfl rfl (.cons (.v _) (.cons (.v _) (.cons (.v _) (.cons (m121.rd (i := 101) rfl) .nil)))) <| .nil) Try.underlying29 inf32eo rfl rfl rfl rfl rfl ?_
          clear ha119 a119 m121; intro g120 a122 w122 ha122 m122 
          refine hK _ _ ?_; clear hK K
          have m124 := m122.freezeR 102 rfl; clear m122
          refine wpList_plain rfl (fun K hK => ?_)
          refine e_appR ha122 m124 2 rfl rfl rfl (m124.rd (i := 102) rfl) Try.underlying29 inf32eo rfl rfl (by decide) (by simp [entsN_len]; omega) rfl ?_
          clear ha122 a122 m124; intro p123 c123 a125 w125 ha125 m125 
          refine hK _ _ ?_; clear hK K
          refine st_y ha125 rfl (y_assign ha125 rfl) ?_
          clear ha125 a125; intro a126 ha126
          refine wpList_nil ?_
          refine hK7 _ _ ?_; clear hK7; try clear K7
          have ha127 : Has 71 [(0, _), (1, _), (5, _), (6, _), (7, _), (38, _), (51, _)] a126 := ha126.only [0, 1, 5, 6, 7, 38, 51]; clear ha126
          refine wp_region_lit ?_
          refine st_y ha127 rfl (y_move ha127 rfl) ?_
          clear ha127 a126; intro a128 ha128
          refine st_y ha128 rfl (y_add ha128 rfl rfl (r := ((k + 1 : Nat) : Int)) (by rw [IntWalk.i64_in _ (by omega)]; omega)) ?_
          clear ha128 a128; intro a129 ha129
          refine st_y ha129 rfl (y_assign ha129 rfl) ?_
          clear ha129 a129; intro a130 ha130
          refine wpList_nil ?_
          show ∃ n', n' < _ ∧ _
          have hE : (entsN F l k).map entD ++ [[D.v (.int .i64 (F + k)), .v (.int .i64 (termN l (k + 1))), .v (.int .i64 (l.getD k 0 / 5 % 2)), .ns .u8 [l.getD k 0, (k : Int)]]] = (entsN F l (k + 1)).map entD := by
            rw [show entsN F l (k + 1) = entsN F l k ++ [entOf F (termN l (k + 1)) (l.getD k 0) k] from rfl, entOf_cmd (by omega) hb44, List.map_append]; rfl
          rw [hE] at m125 ha130
          exact ⟨l.length - (k + 1), by omega, k + 1, _, _, by omega, rfl, ha130.only [0, 1, 5, 6, 7], m125.only [2]⟩
      · skip
        clear ha43
        try simp only [decide_eq_true_eq, decide_eq_false_iff_not, Bool.not_eq_true, Bool.not_eq_false, Bool.not_eq_eq_eq_not, Bool.not_true, Bool.not_false, Bool.not_not, Int.not_lt, Int.not_le, ne_eq, Decidable.not_not] at hb44
        refine wp_cond_false (ha44.ev (x := .tmp 38) rfl) ?_
        refine wp_skip ?_
        refine hK10 _ _ ?_; clear hK10; try clear K10
        refine wp_seq_k (fun K14 hK14 => ?_)
        refine wp_seq_k (fun K15 hK15 => ?_)
        refine wp_region_lit ?_
        refine st_y ha44 rfl (y_move ha44 rfl) ?_
        clear ha44 a43; intro a131 ha131
        refine st_y ha131 rfl (y_move ha131 rfl) ?_
        clear ha131 a131; intro a132 ha132
        obtain ⟨gx133, ox133, hp133, hl133, hrg133⟩ := hl0.extN (k) hk
        cases hp133; clear hl133
        refine st_y ha132 rfl (y_idx ha132 rfl rfl Try.underlying23 sz5eo (k) rfl hk) ?_
        clear ha132 a132; intro a134 ha134
        refine st_y ha134 rfl (y_loadAt1 ha134 (hrg133 m39 rfl) (q := 0) rfl rfl rfl Try.underlying5 rfl) ?_
        clear ha134 a134; intro a135 ha135
        refine st_y ha135 rfl (y_gtr ha135 rfl rfl) ?_
        clear ha135 a135; intro a136 ha136
        refine wpList_nil ?_
        refine hK15 _ _ ?_; clear hK15; try clear K15
        refine bool_cases ha136 (t := 51) rfl (fun hb137 ha137 => ?_) (fun hb137 ha137 => ?_)
        · skip
          clear ha136
          try simp only [decide_eq_true_eq, decide_eq_false_iff_not, Bool.not_eq_true, Bool.not_eq_false, Bool.not_eq_eq_eq_not, Bool.not_true, Bool.not_false, Bool.not_not, Int.not_lt, Int.not_le, ne_eq, Decidable.not_not] at hb137
          refine wp_cond_true (ha137.ev (x := .tmp 51) rfl) ?_
          have ha138 : Has 71 [(0, _), (1, _), (5, _), (6, _), (7, _), (8, _), (38, _), (51, _)] a136 := ha137.only [0, 1, 5, 6, 7, 8, 38, 51]; clear ha137
          obtain ⟨gx140, ox140, hp140, hl140, hrg140⟩ := hl0.extN (k) hk
          cases hp140; clear hl140
          obtain ⟨gx142, ox142, hp142, hl142, hrg142⟩ := hl0.extN (k) hk
          cases hp142; clear hl142
          have m143 : MemOk _ _ [(2, _), (100, _)] _ := m39.only [2, 100]; clear m39
          refine region_m 15 (B := [(2, _), (100, .any _)]) (m143.to ⟨.inl rfl, .inr ⟨_, _, _, rfl, rfl⟩, trivial⟩) m143 (by kernel_rfl) (fun w144 mB144 m144 => ?_); clear m143 mB144
          refine d_y 0 ha138 rfl rfl (fun _ => (m144.to ⟨.inl rfl, .inr ⟨_, _, _, rfl, rfl⟩, trivial⟩)) (by kernel_rfl) (by kernel_rfl) (by kernel_rfl) (by rfl) (fun _ _ _ h => h) (fun W => y_move ha138 rfl) ?_
          clear ha138 a136; intro a145 ha145
          refine d_y 1 ha145 rfl rfl (fun _ => (m144.to ⟨.inl rfl, .inr ⟨_, _, _, rfl, rfl⟩, trivial⟩)) (by kernel_rfl) (by kernel_rfl) (by kernel_rfl) (by rfl) (fun _ _ _ h => h) (fun W => y_move ha145 rfl) ?_
          clear ha145 a145; intro a146 ha146
          refine d_y 2 ha146 rfl rfl (fun _ => (m144.to ⟨.inl rfl, .inr ⟨_, _, _, rfl, rfl⟩, trivial⟩)) (by kernel_rfl) (by kernel_rfl) (by kernel_rfl) (by rfl) (fun _ _ _ h => h) (fun W => y_idx ha146 rfl rfl Try.underlying23 sz5eo (k) rfl hk) ?_
          clear ha146 a146; intro a147 ha147
          refine d_r 3 ha147 rfl rfl (m144.to ⟨.inl rfl, .inr ⟨_, _, _, rfl, rfl⟩, trivial⟩) (by kernel_rfl) (by kernel_rfl) (by kernel_rfl) (by kernel_rfl) (by kernel_rfl) (fun _ _ _ h => h) (fun W hW => y_loadAt1 ha147 (hrg140 hW rfl) (q := 0) rfl rfl rfl Try.underlying5 rfl) ?_
          clear ha147 a147; intro a148 ha148
          refine d_y 4 ha148 rfl rfl (fun _ => (m144.to ⟨.inl rfl, .inr ⟨_, _, _, rfl, rfl⟩, trivial⟩)) (by kernel_rfl) (by kernel_rfl) (by kernel_rfl) (by rfl) (fun _ _ _ h => h) (fun W => y_rem ha148 rfl rfl (by decide) (Int.tmod_eq_emod_of_nonneg (by omega))) ?_
          clear ha148 a148; intro a149 ha149
          refine d_y 5 ha149 rfl rfl (fun _ => (m144.to ⟨.inl rfl, .inr ⟨_, _, _, rfl, rfl⟩, trivial⟩)) (by kernel_rfl) (by kernel_rfl) (by kernel_rfl) (by rfl) (fun _ _ _ h => h) (fun W => y_move ha149 rfl) ?_
          clear ha149 a149; intro a150 ha150
          refine d_y 6 ha150 rfl rfl (fun _ => (m144.to ⟨.inl rfl, .inr ⟨_, _, _, rfl, rfl⟩, trivial⟩)) (by kernel_rfl) (by kernel_rfl) (by kernel_rfl) (by rfl) (fun _ _ _ h => h) (fun W => y_move ha150 rfl) ?_
          clear ha150 a150; intro a151 ha151
          refine d_y 7 ha151 rfl rfl (fun _ => (m144.to ⟨.inl rfl, .inr ⟨_, _, _, rfl, rfl⟩, trivial⟩)) (by kernel_rfl) (by kernel_rfl) (by kernel_rfl) (by rfl) (fun _ _ _ h => h) (fun W => y_idx ha151 rfl rfl Try.underlying23 sz5eo (k) rfl hk) ?_
          clear ha151 a151; intro a152 ha152
          refine d_r 8 ha152 rfl rfl (m144.to ⟨.inl rfl, .inr ⟨_, _, _, rfl, rfl⟩, trivial⟩) (by kernel_rfl) (by kernel_rfl) (by kernel_rfl) (by kernel_rfl) (by kernel_rfl) (fun _ _ _ h => h) (fun W hW => y_loadAt1 ha152 (hrg142 hW rfl) (q := 0) rfl rfl rfl Try.underlying5 rfl) ?_
          clear ha152 a152; intro a153 ha153
          refine d_y 9 ha153 rfl rfl (fun _ => (m144.to ⟨.inl rfl, .inr ⟨_, _, _, rfl, rfl⟩, trivial⟩)) (by kernel_rfl) (by kernel_rfl) (by kernel_rfl) (by rfl) (fun _ _ _ h => h) (fun W => y_quo ha153 rfl rfl (by decide) (r := l.getD k 0 / 5) (by rw [Int.tdiv_eq_ediv_of_nonneg (by omega)]; exact IntWalk.u8_in _ (by omega))) ?_
          clear ha153 a153; intro a154 ha154
          refine d_y 10 ha154 rfl rfl (fun _ => (m144.to ⟨.inl rfl, .inr ⟨_, _, _, rfl, rfl⟩, trivial⟩)) (by kernel_rfl) (by kernel_rfl) (by kernel_rfl) (by rfl) (fun _ _ _ h => h) (fun W => y_rem ha154 rfl rfl (by decide) (Int.tmod_eq_emod_of_nonneg (by omega))) ?_
          clear ha154 a154; intro a155 ha155
          refine d_y 12 ha155 rfl rfl (fun _ => (m144.to ⟨.inl rfl, .inr ⟨_, _, _, rfl, rfl⟩, trivial⟩)) (by kernel_rfl) (by kernel_rfl) (by kernel_rfl) (by rfl) (fun _ _ _ h => h) (fun W => y_fieldAddr ha155 (off := 2) rfl Try.underlying32 rfl (s := 0) (by kernel_rfl) rfl) ?_
          clear ha155 a155; intro a156 ha156
          refine d_two 11 13 rfl rfl (by kernel_rfl) rfl rfl (fun K hK => ?_) (fun K hK => ?_)
          · skip
            refine e_litN ha156 m144 101 (k := .u8) rfl rfl Try.underlying23 inf5eo rfl rfl rfl rfl ?_
            clear ha156 a156 m144; intro g157 a158 w158 ha158 m158 
            refine hK _ _ (fun _ => (m158.to ⟨.inl rfl, .inr ⟨_, _, _, rfl, rfl⟩, trivial⟩)) ?_; clear hK K
            refine stepE_only 13 rfl (by kernel_rfl) rfl (fun K hK => ?_)
            refine e_store1 ha158 m158 100 rfl rfl rfl rfl rfl sz3eo (by dsimp only [List.set] <;> rfl) ?_
            clear m158; intro w159 m159 hB159
            clear hB159
            refine hK _ _ (m159.to ⟨.inl rfl, .inr ⟨_, _, _, rfl, rfl⟩, trivial⟩) ?_; clear hK K
            refine d_y 14 ha158 rfl rfl (fun _ => (m159.to ⟨.inl rfl, .inr ⟨_, _, _, rfl, rfl⟩, trivial⟩)) (by kernel_rfl) (by kernel_rfl) (by kernel_rfl) (by rfl) (fun _ _ _ h => h) (fun W => y_fieldAddr ha158 (off := 3) rfl Try.underlying32 rfl (s := 0) (by kernel_rfl) rfl) ?_
            clear ha158 a158; intro a160 ha160
            refine stepE_end 15 rfl (by kernel_rfl) rfl (by rfl) (fun K hK => ?_)
            refine e_store1 ha160 m159 100 rfl rfl rfl rfl rfl sz23eo (by dsimp only [List.set] <;> rfl) ?_
            clear m159; intro w161 m161 hB161
            clear hB161
            refine hK _ _ ?_; clear hK K
            refine wpAnyE_done (by kernel_rfl) ?_ _
            refine hK14 _ _ ?_; clear hK14; try clear K14
            have ha162 : Has 71 [(0, _), (1, _), (5, _), (6, _), (7, _), (8, _), (38, _), (51, _)] a160 := ha160.only [0, 1, 5, 6, 7, 8, 38, 51]; clear ha160
            refine wp_region_lit ?_
            refine st_y ha162 rfl (y_move ha162 rfl) ?_
            clear ha162 a160; intro a163 ha163
            refine st_y ha163 rfl (y_loadBR ha163 m161 (i := 100) rfl rfl Try.underlying32 rfl sz32eo (by simp) (by dsimp only [List.drop, List.take] <;> rfl)) ?_
            clear ha163 a163; intro a164 ha164
            have m166 := m161.freezeN 101 rfl; clear m161
            refine wpList_plain rfl (fun K hK => ?_)
            refine e_litR ha164 m166 102 (mm := 4) rfl (.cons rfl rfl (.cons (.v _) (.cons (.v _) (.cons (.v _) (.cons (m166.rd (i := 101) rfl) .nil)))) <| .nil) Try.underlying29 inf32eo rfl rfl rfl rfl rfl ?_
            clear ha164 a164 m166; intro g165 a167 w167 ha167 m167 
            refine hK _ _ ?_; clear hK K
            have m169 := m167.freezeR 102 rfl; clear m167
            refine wpList_plain rfl (fun K hK => ?_)
            refine e_appR ha167 m169 2 rfl rfl rfl (m169.rd (i := 102) rfl) Try.underlying29 inf32eo rfl rfl (by decide) (by simp [entsN_len]; omega) rfl ?_
            clear ha167 a167 m169; intro p168 c168 a170 w170 ha170 m170 
            refine hK _ _ ?_; clear hK K
            refine st_y ha170 rfl (y_assign ha170 rfl) ?_
            clear ha170 a170; intro a171 ha171
            refine wpList_nil ?_
            refine hK7 _ _ ?_; clear hK7; try clear K7
            refine wp_region_lit ?_
            refine st_y ha171 rfl (y_move ha171 rfl) ?_
            clear ha171 a171; intro a172 ha172
            refine st_y ha172 rfl (y_add ha172 rfl rfl (r := ((k + 1 : Nat) : Int)) (by rw [IntWalk.i64_in _ (by omega)]; omega)) ?_
            clear ha172 a172; intro a173 ha173
            refine st_y ha173 rfl (y_assign ha173 rfl) ?_
            clear ha173 a173; intro a174 ha174
            refine wpList_nil ?_
            show ∃ n', n' < _ ∧ _
            have hE : (entsN F l k).map entD ++ [[D.v (.int .i64 (F + k)), .v (.int .i64 (termN l (k + 1))), .v (.int .i64 (2)), .ns .u8 [l.getD k 0 % 5, l.getD k 0 / 5 % 2]]] = (entsN F l (k + 1)).map entD := by
              rw [show entsN F l (k + 1) = entsN F l k ++ [entOf F (termN l (k + 1)) (l.getD k 0) k] from rfl, entOf_big hb137, List.map_append]; rfl
            rw [hE] at m170 ha174
            exact ⟨l.length - (k + 1), by omega, k + 1, _, _, by omega, rfl, ha174.only [0, 1, 5, 6, 7], m170.only [2]⟩
          · skip
            refine e_store1 ha156 m144 100 rfl rfl rfl rfl rfl sz3eo (by dsimp only [List.set] <;> rfl) ?_
            clear m144; intro w175 m175 hB175
            clear hB175
            refine hK _ _ (fun _ => (m175.to ⟨.inl rfl, .inr ⟨_, _, _, rfl, rfl⟩, trivial⟩)) ?_; clear hK K
            refine stepE_only 11 rfl (by kernel_rfl) rfl (fun K hK => ?_)
            refine e_litN ha156 m175 101 (k := .u8) rfl rfl Try.underlying23 inf5eo rfl rfl rfl rfl ?_
            clear ha156 a156 m175; intro g176 a177 w177 ha177 m177 
            refine hK _ _ (m177.to ⟨.inl rfl, .inr ⟨_, _, _, rfl, rfl⟩, trivial⟩) ?_; clear hK K
            refine d_y 14 ha177 rfl rfl (fun _ => (m177.to ⟨.inl rfl, .inr ⟨_, _, _, rfl, rfl⟩, trivial⟩)) (by kernel_rfl) (by kernel_rfl) (by kernel_rfl) (by rfl) (fun _ _ _ h => h) (fun W => y_fieldAddr ha177 (off := 3) rfl Try.underlying32 rfl (s := 0) (by kernel_rfl) rfl) ?_
            clear ha177 a177; intro a178 ha178
            refine stepE_end 15 rfl (by kernel_rfl) rfl (by rfl) (fun K hK => ?_)
            refine e_store1 ha178 m177 100 rfl rfl rfl rfl rfl sz23eo (by dsimp only [List.set] <;> rfl) ?_
            clear m177; intro w179 m179 hB179
            clear hB179
            refine hK _ _ ?_; clear hK K
            refine wpAnyE_done (by kernel_rfl) ?_ _
            refine hK14 _ _ ?_; clear hK14; try clear K14
            have ha180 : Has 71 [(0, _), (1, _), (5, _), (6, _), (7, _), (8, _), (38, _), (51, _)] a178 := ha178.only [0, 1, 5, 6, 7, 8, 38, 51]; clear ha178
            refine wp_region_lit ?_
            refine st_y ha180 rfl (y_move ha180 rfl) ?_
            clear ha180 a178; intro a181 ha181
            refine st_y ha181 rfl (y_loadBR ha181 m179 (i := 100) rfl rfl Try.underlying32 rfl sz32eo (by simp) (by dsimp only [List.drop, List.take] <;> rfl)) ?_
            clear ha181 a181; intro a182 ha182
            have m184 := m179.freezeN 101 rfl; clear m179
            refine wpList_plain rfl (fun K hK => ?_)
            refine e_litR ha182 m184 102 (mm := 4) rfl (.cons rfl rfl (.cons (.v _) (.cons (.v _) (.cons (.v _) (.cons (m184.rd (i := 101) rfl) .nil)))) <| .nil) Try.underlying29 inf32eo rfl rfl rfl rfl rfl ?_
            clear ha182 a182 m184; intro g183 a185 w185 ha185 m185 
            refine hK _ _ ?_; clear hK K
            have m187 := m185.freezeR 102 rfl; clear m185
            refine wpList_plain rfl (fun K hK => ?_)
            refine e_appR ha185 m187 2 rfl rfl rfl (m187.rd (i := 102) rfl) Try.underlying29 inf32eo rfl rfl (by decide) (by simp [entsN_len]; omega) rfl ?_
            clear ha185 a185 m187; intro p186 c186 a188 w188 ha188 m188 
            refine hK _ _ ?_; clear hK K
            refine st_y ha188 rfl (y_assign ha188 rfl) ?_
            clear ha188 a188; intro a189 ha189
            refine wpList_nil ?_
            refine hK7 _ _ ?_; clear hK7; try clear K7
            refine wp_region_lit ?_
            refine st_y ha189 rfl (y_move ha189 rfl) ?_
            clear ha189 a189; intro a190 ha190
            refine st_y ha190 rfl (y_add ha190 rfl rfl (r := ((k + 1 : Nat) : Int)) (by rw [IntWalk.i64_in _ (by omega)]; omega)) ?_
            clear ha190 a190; intro a191 ha191
            refine st_y ha191 rfl (y_assign ha191 rfl) ?_
            clear ha191 a191; intro a192 ha192
            refine wpList_nil ?_
            show ∃ n', n' < _ ∧ _
            have hE : (entsN F l k).map entD ++ [[D.v (.int .i64 (F + k)), .v (.int .i64 (termN l (k + 1))), .v (.int .i64 (2)), .ns .u8 [l.getD k 0 % 5, l.getD k 0 / 5 % 2]]] = (entsN F l (k + 1)).map entD := by
              rw [show entsN F l (k + 1) = entsN F l k ++ [entOf F (termN l (k + 1)) (l.getD k 0) k] from rfl, entOf_big hb137, List.map_append]; rfl
            rw [hE] at m188 ha192
            exact ⟨l.length - (k + 1), by omega, k + 1, _, _, by omega, rfl, ha192.only [0, 1, 5, 6, 7], m188.only [2]⟩
        · skip
          clear ha136
          try simp only [decide_eq_true_eq, decide_eq_false_iff_not, Bool.not_eq_true, Bool.not_eq_false, Bool.not_eq_eq_eq_not, Bool.not_true, Bool.not_false, Bool.not_not, Int.not_lt, Int.not_le, ne_eq, Decidable.not_not] at hb137
          refine wp_cond_false (ha137.ev (x := .tmp 51) rfl) ?_
          refine wp_skip ?_
          refine hK14 _ _ ?_; clear hK14; try clear K14
          have ha193 : Has 71 [(0, _), (1, _), (5, _), (6, _), (7, _), (8, _), (38, _), (51, _)] a136 := ha137.only [0, 1, 5, 6, 7, 8, 38, 51]; clear ha137
          refine wp_region_lit ?_
          refine st_y ha193 rfl (y_move ha193 rfl) ?_
          clear ha193 a136; intro a194 ha194
          refine st_y ha194 rfl (y_loadBR ha194 m39 (i := 100) rfl rfl Try.underlying32 rfl sz32eo (by simp) (by dsimp only [List.drop, List.take] <;> rfl)) ?_
          clear ha194 a194; intro a195 ha195
          refine wpList_plain rfl (fun K hK => ?_)
          refine e_litR ha195 m39 101 (mm := 4) rfl (.cons rfl rfl (.cons (.v _) (.cons (.v _) (.cons (.v _) (.cons (Rd.nilN _ _ .u8 _) .nil)))) <| .nil) Try.underlying29 inf32eo rfl rfl rfl rfl rfl ?_
          clear ha195 a195 m39; intro g196 a197 w197 ha197 m197 
          refine hK _ _ ?_; clear hK K
          have m199 := m197.freezeR 101 rfl; clear m197
          refine wpList_plain rfl (fun K hK => ?_)
          refine e_appR ha197 m199 2 rfl rfl rfl (m199.rd (i := 101) rfl) Try.underlying29 inf32eo rfl rfl (by decide) (by simp [entsN_len]; omega) rfl ?_
          clear ha197 a197 m199; intro p198 c198 a200 w200 ha200 m200 
          refine hK _ _ ?_; clear hK K
          refine st_y ha200 rfl (y_assign ha200 rfl) ?_
          clear ha200 a200; intro a201 ha201
          refine wpList_nil ?_
          refine hK7 _ _ ?_; clear hK7; try clear K7
          refine wp_region_lit ?_
          refine st_y ha201 rfl (y_move ha201 rfl) ?_
          clear ha201 a201; intro a202 ha202
          refine st_y ha202 rfl (y_add ha202 rfl rfl (r := ((k + 1 : Nat) : Int)) (by rw [IntWalk.i64_in _ (by omega)]; omega)) ?_
          clear ha202 a202; intro a203 ha203
          refine st_y ha203 rfl (y_assign ha203 rfl) ?_
          clear ha203 a203; intro a204 ha204
          refine wpList_nil ?_
          show ∃ n', n' < _ ∧ _
          have hE : (entsN F l k).map entD ++ [[D.v (.int .i64 (F + k)), .v (.int .i64 (termN l (k + 1))), .v (.int .i64 (l.getD k 0 / 5 % 2)), .ns .u8 []]] = (entsN F l (k + 1)).map entD := by
            rw [show entsN F l (k + 1) = entsN F l k ++ [entOf F (termN l (k + 1)) (l.getD k 0) k] from rfl, entOf_no (by omega) (by omega), List.map_append]; rfl
          rw [hE] at m200 ha204
          exact ⟨l.length - (k + 1), by omega, k + 1, _, _, by omega, rfl, ha204.only [0, 1, 5, 6, 7], m200.only [2]⟩
    · skip
      clear ha10
      try simp only [decide_eq_true_eq, decide_eq_false_iff_not, Bool.not_eq_true, Bool.not_eq_false, Bool.not_eq_eq_eq_not, Bool.not_true, Bool.not_false, Bool.not_not, Int.not_lt, Int.not_le, ne_eq, Decidable.not_not] at hb11
      refine wp_cond_false (ha11.ev (x := .tmp 12) rfl) ?_
      refine wp_exit ?_
      refine hK3 _ _ ?_; clear hK3; try clear K3
      refine wp_seq_k (fun K16 hK16 => ?_)
      refine wp_region_lit ?_
      refine st_y ha11 rfl (y_move ha11 rfl) ?_
      clear ha11 a10; intro a205 ha205
      refine st_y ha205 rfl (y_assign ha205 rfl) ?_
      clear ha205 a205; intro a206 ha206
      refine wpList_nil ?_
      refine hK16 _ _ ?_; clear hK16; try clear K16
      refine wp_ret ?_
      try dsimp only [Exit.then, Exit.inBlock]
      refine (ret1 (fn := Try.f8) ha206 rfl rfl ?_)
      obtain rfl : k = l.length := by omega
      exact ⟨_, _, rfl, m6.outR (i := 2) rfl, m6.below⟩
theorem sbase_any (bi bt : Int) (cf d : List Int) (p1 p2 p3 p4 : Option Addr) (c1 c2 c3 c4 : Nat) (w0 : World) (hcf : cf.length ≤ 1000000) (h1 : Rd (fun _ => True) w0 (.slice p1 cf.length c1) (.ns .i64 cf)) (h2 : Rd (fun _ => True) w0 (.slice p2 d.length c2) (.ns .u8 d)) (h3 : Rd (fun _ => True) w0 (.slice p3 cf.length c3) (.ns .i64 cf)) (h4 : Rd (fun _ => True) w0 (.slice p4 d.length c4) (.ns .u8 d)) :
    Calls Try.prog 32 #[.agg #[.int .i64 bi, .int .i64 bt, .slice p1 cf.length c1, .slice p2 d.length c2], .agg #[.int .i64 bi, .int .i64 bt, .slice p3 cf.length c3, .slice p4 d.length c4]] w0 fun e w' => e = .returned (.bool true) ∧ Below w0.heap.size w0 w' := by
  refine enter (fn := Try.f32) Try.func32 rfl Try.ntmps32 rfl (fun a0 ha0 => ?_)
  simp only [List.zipIdx_cons, List.zipIdx_nil, List.map_cons, List.map_nil, Nat.reduceAdd, Nat.zero_add] at ha0
  have m0 := MemOk.start (fun _ => False) w0
  refine wp_seq_k (fun K0 hK0 => ?_)
  refine wp_region_lit ?_
  refine wpList_plain rfl (fun K hK => ?_)
  refine e_box ha0 m0 5 (cs := [_, _, _, _]) rfl rfl rfl ?_
  clear ha0 a0 m0; intro g1 a2 w2 ha2 m2 hB2 hg2
  clear hB2 hg2
  refine hK _ _ ?_; clear hK K
  refine wpList_plain rfl (fun K hK => ?_)
  refine e_box ha2 m2 6 (cs := [_, _, _, _]) rfl rfl rfl ?_
  clear ha2 a2 m2; intro g3 a4 w4 ha4 m4 hB4 hg4
  clear hB4 hg4
  refine hK _ _ ?_; clear hK K
  refine st_y ha4 rfl (y_assign ha4 rfl) ?_
  clear ha4 a4; intro a5 ha5
  refine wpList_nil ?_
  refine hK0 _ _ ?_; clear hK0; try clear K0
  refine wp_seq_k (fun K1 hK1 => ?_)
  refine wp_region_lit ?_
  refine st_y ha5 rfl (y_fieldAddr ha5 (off := 0) rfl Try.underlying28 rfl (s := 0) (by kernel_rfl) rfl) ?_
  clear ha5 a5; intro a6 ha6
  refine st_y ha6 rfl (y_loadB1 ha6 m4 (i := 5) rfl rfl rfl Try.underlying3 rfl) ?_
  clear ha6 a6; intro a7 ha7
  refine st_y ha7 rfl (y_fieldAddr ha7 (off := 0) rfl Try.underlying28 rfl (s := 0) (by kernel_rfl) rfl) ?_
  clear ha7 a7; intro a8 ha8
  refine st_y ha8 rfl (y_loadB1 ha8 m4 (i := 6) rfl rfl rfl Try.underlying3 rfl) ?_
  clear ha8 a8; intro a9 ha9
  refine st_y ha9 rfl (y_eql ha9 rfl rfl) ?_
  clear ha9 a9; intro a10 ha10
  refine st_y ha10 rfl (y_move ha10 rfl) ?_
  clear ha10 a10; intro a11 ha11
  refine bool_cases ha11 (t := 10) rfl (fun hb12 ha12 => ?_) (fun hb12 ha12 => ?_)
  rotate_left
  · exact absurd hb12 (by simp)
  clear ha11 hb12
  refine st_g ha12 rfl rfl rfl rfl (y_fieldAddr ha12 (off := 1) rfl Try.underlying28 rfl (s := 0) (by kernel_rfl) rfl) ?_
  clear ha12 a11; intro a13 ha13
  refine st_g ha13 rfl rfl rfl rfl (y_loadB1 ha13 m4 (i := 5) rfl rfl rfl Try.underlying3 rfl) ?_
  clear ha13 a13; intro a14 ha14
  refine st_g ha14 rfl rfl rfl rfl (y_fieldAddr ha14 (off := 1) rfl Try.underlying28 rfl (s := 0) (by kernel_rfl) rfl) ?_
  clear ha14 a14; intro a15 ha15
  refine st_g ha15 rfl rfl rfl rfl (y_loadB1 ha15 m4 (i := 6) rfl rfl rfl Try.underlying3 rfl) ?_
  clear ha15 a15; intro a16 ha16
  refine st_g ha16 rfl rfl rfl rfl (y_eql ha16 rfl rfl) ?_
  clear ha16 a16; intro a17 ha17
  refine st_y ha17 rfl (y_pickT ha17 rfl rfl) ?_
  clear ha17 a17; intro a18 ha18
  refine st_y ha18 rfl (y_move ha18 rfl) ?_
  clear ha18 a18; intro a19 ha19
  refine bool_cases ha19 (t := 17) rfl (fun hb20 ha20 => ?_) (fun hb20 ha20 => ?_)
  rotate_left
  · exact absurd hb20 (by simp)
  clear ha19 hb20
  refine st_g ha20 rfl rfl rfl rfl (y_fieldAddr ha20 (off := 2) rfl Try.underlying28 rfl (s := 0) (by kernel_rfl) rfl) ?_
  clear ha20 a19; intro a21 ha21
  refine st_g ha21 rfl rfl rfl rfl (y_loadB1 ha21 m4 (i := 5) rfl rfl rfl Try.underlying26 rfl) ?_
  clear ha21 a21; intro a22 ha22
  refine st_g ha22 rfl rfl rfl rfl (y_fieldAddr ha22 (off := 2) rfl Try.underlying28 rfl (s := 0) (by kernel_rfl) rfl) ?_
  clear ha22 a22; intro a23 ha23
  refine st_g ha23 rfl rfl rfl rfl (y_loadB1 ha23 m4 (i := 6) rfl rfl rfl Try.underlying26 rfl) ?_
  clear ha23 a23; intro a24 ha24
  refine st_ge ha24 rfl rfl rfl rfl (fun K hK => ?_)
  refine e_call ha24 Try.func43 rfl rfl rfl rfl (sameI_any cf _ _ _ _ _ hcf ((h1.now' m4 rfl).any) ((h3.now' m4 rfl).any)) ?_
  rintro e w25 ⟨rfl, hb25⟩
  have m26 := m4.later hb25
  clear m4
  clear hb25
  refine ⟨_, rfl, fun a27 ha27 => ?_⟩; clear ha24 a24
  refine hK _ _ ?_; clear hK K
  refine st_y ha27 rfl (y_pickT ha27 rfl rfl) ?_
  clear ha27 a27; intro a28 ha28
  refine st_y ha28 rfl (y_move ha28 rfl) ?_
  clear ha28 a28; intro a29 ha29
  refine st_g ha29 rfl rfl rfl rfl (y_fieldAddr ha29 (off := 3) rfl Try.underlying28 rfl (s := 0) (by kernel_rfl) rfl) ?_
  clear ha29 a29; intro a30 ha30
  refine st_g ha30 rfl rfl rfl rfl (y_loadB1 ha30 m26 (i := 5) rfl rfl rfl Try.underlying23 rfl) ?_
  clear ha30 a30; intro a31 ha31
  refine st_g ha31 rfl rfl rfl rfl (y_str ha31 rfl (h2.now' m26 rfl).ns_out.nums Try.underlying23 Try.underlying5 Try.underlying9) ?_
  clear ha31 a31; intro a32 ha32
  refine st_g ha32 rfl rfl rfl rfl (y_fieldAddr ha32 (off := 3) rfl Try.underlying28 rfl (s := 0) (by kernel_rfl) rfl) ?_
  clear ha32 a32; intro a33 ha33
  refine st_g ha33 rfl rfl rfl rfl (y_loadB1 ha33 m26 (i := 6) rfl rfl rfl Try.underlying23 rfl) ?_
  clear ha33 a33; intro a34 ha34
  refine st_g ha34 rfl rfl rfl rfl (y_str ha34 rfl (h4.now' m26 rfl).ns_out.nums Try.underlying23 Try.underlying5 Try.underlying9) ?_
  clear ha34 a34; intro a35 ha35
  refine st_g ha35 rfl rfl rfl rfl (y_eqlS ha35 rfl rfl) ?_
  clear ha35 a35; intro a36 ha36
  refine st_y ha36 rfl (y_pickT ha36 rfl rfl) ?_
  clear ha36 a36; intro a37 ha37
  refine st_y ha37 rfl (y_assign ha37 rfl) ?_
  clear ha37 a37; intro a38 ha38
  refine wpList_nil ?_
  refine hK1 _ _ ?_; clear hK1; try clear K1
  refine wp_ret ?_
  try dsimp only [Exit.then, Exit.inBlock]
  refine (ret1 (fn := Try.f32) ha38 rfl rfl ?_)
  exact ⟨by simp, m26.below⟩
theorem alike_fr (X : Cx) (B C : Nat) (bi bt : Int) (cf d : List Int) (es : List (Int × Int × Int × List Int)) (pc pd pl pc2 pd2 pl2 : Option Addr) (cc cd cl cc2 cd2 cl2 : Nat) (nq : Int) (w0 : World) (hbi : 0 ≤ bi ∧ bi ≤ 1000000) (hn : es.length ≤ 1000) (hsq : Seq bi es) (hok : EntsOk es) (heb : EntsB es) (her : EntsR es) (hcf : cf.length ≤ 900) (hdl : d.length ≤ 140737488351232) (m0 : MemOk X w0 [(1, .box B 56 [.int .i64 bi, .int .i64 bt, .slice pc cf.length cc, .slice pd d.length cd, .slice pl (es.map entD).length cl]), (2, .seg (.slice pl (es.map entD).length cl) 32 4 (es.map entD)), (3, .dat (.slice pc cf.length cc) (.ns .i64 cf)), (4, .dat (.slice pd d.length cd) (.ns .u8 d)), (11, .box C 41 [.int .i64 bi, .int .i64 bt, .slice pc2 cf.length cc2, .slice pd2 d.length cd2, .slice pl2 (es.map entD).length cl2]), (12, .seg (.slice pl2 (es.map entD).length cl2) 32 4 (es.map entD)), (13, .dat (.slice pc2 cf.length cc2) (.ns .i64 cf)), (14, .dat (.slice pd2 d.length cd2) (.ns .u8 d))] w0) :
    Calls Try.prog 11 #[.pointer (some ⟨B, 0, none⟩), .pointer (some ⟨C, 0, none⟩), .int .i64 nq] w0 fun e w' => ∃ (pl2' : Option Addr) (cl2' : Nat), e = .returned (.bool true) ∧ MemOk X w0 [(1, .box B 56 [.int .i64 bi, .int .i64 bt, .slice pc cf.length cc, .slice pd d.length cd, .slice pl (es.map entD).length cl]), (2, .seg (.slice pl (es.map entD).length cl) 32 4 (es.map entD)), (3, .dat (.slice pc cf.length cc) (.ns .i64 cf)), (4, .dat (.slice pd d.length cd) (.ns .u8 d)), (11, .box C 41 [.int .i64 bi, .int .i64 bt, .slice pc2 cf.length cc2, .slice pd2 d.length cd2, .slice pl2' (es.map entD).length cl2']), (12, .seg (.slice pl2' (es.map entD).length cl2') 32 4 (es.map entD)), (13, .dat (.slice pc2 cf.length cc2) (.ns .i64 cf)), (14, .dat (.slice pd2 d.length cd2) (.ns .u8 d))] w' := by
  refine enter (fn := Try.f11) Try.func11 rfl Try.ntmps11 rfl (fun a0 ha0 => ?_)
  simp only [List.zipIdx_cons, List.zipIdx_nil, List.map_cons, List.map_nil, Nat.reduceAdd, Nat.zero_add] at ha0
  have hml : (es.map entD).length = es.length := List.length_map _
  have hall : fromL bi es 0 1000 = es := by unfold fromL; rw [show ((0 : Int) - bi - 1).toNat = 0 from by omega, List.drop_zero]; exact List.take_of_length_le (by show es.length ≤ 1000; omega)
  refine wp_seq_k (fun K0 hK0 => ?_)
  refine wp_region_lit ?_
  refine st_y ha0 rfl (y_assign ha0 rfl) ?_
  clear ha0 a0; intro a1 ha1
  refine wpList_nil ?_
  refine hK0 _ _ ?_; clear hK0; try clear K0
  refine wp_seq_k (fun K1 hK1 => ?_)
  refine wp_seq_k (fun K2 hK2 => ?_)
  have m2 : MemOk _ _ [(1, _), (2, _), (3, _), (4, _), (11, _), (12, _), (13, _), (14, _)] _ := m0.only [1, 2, 3, 4, 11, 12, 13, 14]; clear m0
  refine region_m 27 (B := [(11, _)]) (m2.to ⟨.inl rfl, trivial⟩) m2 (by kernel_rfl) (fun w3 mB3 m3 => ?_); clear m2 mB3
  refine d_y 0 ha1 rfl rfl (fun _ => (m3.to ⟨.inl rfl, trivial⟩)) (by kernel_rfl) (by kernel_rfl) (by kernel_rfl) (by rfl) (fun _ _ _ h => h) (fun W => y_move ha1 rfl) ?_
  clear ha1 a1; intro a4 ha4
  refine d_y 1 ha4 rfl rfl (fun _ => (m3.to ⟨.inl rfl, trivial⟩)) (by kernel_rfl) (by kernel_rfl) (by kernel_rfl) (by rfl) (fun _ _ _ h => h) (fun W => y_nilCheck ha4 rfl) ?_
  clear ha4 a4; intro a5 ha5
  refine d_y 2 ha5 rfl rfl (fun _ => (m3.to ⟨.inl rfl, trivial⟩)) (by kernel_rfl) (by kernel_rfl) (by kernel_rfl) (by rfl) (fun _ _ _ h => h) (fun W => y_fieldAddr ha5 (off := 0) rfl Try.underlying56 rfl (s := 4) (by kernel_rfl) rfl) ?_
  clear ha5 a5; intro a6 ha6
  refine d_y 4 ha6 rfl rfl (fun _ => (m3.to ⟨.inl rfl, trivial⟩)) (by kernel_rfl) (by kernel_rfl) (by kernel_rfl) (by rfl) (fun _ _ _ h => h) (fun W => y_move ha6 rfl) ?_
  clear ha6 a6; intro a7 ha7
  refine stepE_only 3 rfl (by kernel_rfl) rfl (fun K hK => ?_)
  refine e_call ha7 Try.func25 rfl rfl rfl rfl (last_any _ bi (es.map entD).length _ _ _ _ _ _ (m3.ok 1 _ rfl : Res.ok _ _ _ _ (.box _ _ _)).1 (by omega) (by omega)) ?_
  rintro e w8 ⟨rfl, hb8⟩
  have m9 := m3.later hb8
  clear m3
  clear hb8
  refine ⟨_, rfl, fun a10 ha10 => ?_⟩; clear ha7 a7
  refine hK _ _ (m9.to ⟨.inl rfl, trivial⟩) ?_; clear hK K
  refine stepE_only 5 rfl (by kernel_rfl) rfl (fun K hK => ?_)
  refine e_call ha10 Try.func21 rfl rfl rfl rfl (rlast_any _ _ _ cf d es _ _ _ _ _ _ _ (m9.ok 11 _ rfl : Res.ok _ _ _ _ (.box _ _ _)).1 ((m9.ok 12 _ rfl : Res.ok _ _ _ _ (.seg _ _ _ _)).1.rd (S' := fun _ => True) (fun _ _ _ => trivial) (fun _ _ => trivial)) (by omega) (by omega)) ?_
  rintro e w11 ⟨rfl, hb11⟩
  have m12 := m9.later hb11
  clear m9
  clear hb11
  refine ⟨_, rfl, fun a13 ha13 => ?_⟩; clear ha10 a10
  refine hK _ _ (m12.to ⟨.inl rfl, trivial⟩) ?_; clear hK K
  refine d_y 6 ha13 rfl rfl (fun _ => (m12.to ⟨.inl rfl, trivial⟩)) (by kernel_rfl) (by kernel_rfl) (by kernel_rfl) (by rfl) (fun _ _ _ h => h) (fun W => y_neq ha13 rfl rfl) ?_
  clear ha13 a13; intro a14 ha14
  refine d_y 7 ha14 rfl rfl (fun _ => (m12.to ⟨.inl rfl, trivial⟩)) (by kernel_rfl) (by kernel_rfl) (by kernel_rfl) (by rfl) (fun _ _ _ h => h) (fun W => y_move ha14 rfl) ?_
  clear ha14 a14; intro a15 ha15
  refine bool_cases ha15 (t := 15) rfl (fun hb16 ha16 => ?_) (fun hb16 ha16 => ?_)
  · exact absurd hb16 (by first | (simp; done) | (simp; omega))
  clear ha15 hb16
  refine d_yg 8 ha16 rfl rfl rfl rfl rfl (fun _ => (m12.to ⟨.inl rfl, trivial⟩)) (by kernel_rfl) (by kernel_rfl) (by kernel_rfl) (by rfl) (fun _ _ _ h => h) (fun W => y_move ha16 rfl) ?_
  clear ha16 a15; intro a17 ha17
  refine d_yg 10 ha17 rfl rfl rfl rfl rfl (fun _ => (m12.to ⟨.inl rfl, trivial⟩)) (by kernel_rfl) (by kernel_rfl) (by kernel_rfl) (by rfl) (fun _ _ _ h => h) (fun W => y_move ha17 rfl) ?_
  clear ha17 a17; intro a18 ha18
  refine d_yg 11 ha18 rfl rfl rfl rfl rfl (fun _ => (m12.to ⟨.inl rfl, trivial⟩)) (by kernel_rfl) (by kernel_rfl) (by kernel_rfl) (by rfl) (fun _ _ _ h => h) (fun W => y_nilCheck ha18 rfl) ?_
  clear ha18 a18; intro a19 ha19
  refine d_yg 12 ha19 rfl rfl rfl rfl rfl (fun _ => (m12.to ⟨.inl rfl, trivial⟩)) (by kernel_rfl) (by kernel_rfl) (by kernel_rfl) (by rfl) (fun _ _ _ h => h) (fun W => y_fieldAddr ha19 (off := 0) rfl Try.underlying41 rfl (s := 3) (by kernel_rfl) rfl) ?_
  clear ha19 a19; intro a20 ha20
  refine d_hg 13 ha20 rfl rfl rfl rfl rfl (m12.to ⟨.inl rfl, trivial⟩) (by kernel_rfl) (by kernel_rfl) (by kernel_rfl) (by kernel_rfl) (by kernel_rfl) (fun _ _ _ h => h) (fun W hW => y_loadBR ha20 hW (i := 11) rfl rfl Try.underlying28 rfl sz28ak (by simp) (by dsimp only [List.drop, List.take] <;> rfl)) ?_
  clear ha20 a20; intro a21 ha21
  refine stepE_only 9 rfl (by kernel_rfl) (wantedG ha21 rfl rfl rfl rfl) (fun K hK => ?_)
  refine e_call ha21 Try.func27 rfl rfl rfl rfl (lbase_any _ bi bt cf d es _ _ _ _ _ _ _ (m12.ok 1 _ rfl : Res.ok _ _ _ _ (.box _ _ _)).1 ((m12.ok 2 _ rfl : Res.ok _ _ _ _ (.seg _ _ _ _)).1.rd (S' := fun _ => True) (fun _ _ _ => trivial) (fun _ _ => trivial)) (by omega) (by omega) (m12.rd (i := 3) rfl).any (m12.rd (i := 4) rfl).any (by omega) hdl) ?_
  rintro e w22 ⟨p22, c22, q22, b22, rfl, hc22, hd22, hb22⟩
  have m23 := m12.callFF 40 41 rfl rfl hb22 hc22 hd22
  clear m12
  clear hb22 hc22 hd22
  refine ⟨_, rfl, fun a24 ha24 => ?_⟩; clear ha21 a21
  refine hK _ _ (m23.to ⟨.inl rfl, trivial⟩) ?_; clear hK K
  refine stepE_only 14 rfl (by kernel_rfl) (wantedG ha24 rfl rfl rfl rfl) (fun K hK => ?_)
  refine e_call ha24 Try.func32 rfl rfl rfl rfl (sbase_any bi bt cf d _ _ _ _ _ _ _ _ _ (by omega) ((m23.rd (i := 40) rfl).any) ((m23.rd (i := 41) rfl).any) ((m23.rd (i := 13) rfl).any) ((m23.rd (i := 14) rfl).any)) ?_
  rintro e w25 ⟨rfl, hb25⟩
  have m26 := m23.later hb25
  clear m23
  clear hb25
  refine ⟨_, rfl, fun a27 ha27 => ?_⟩; clear ha24 a24
  refine hK _ _ (m26.to ⟨.inl rfl, trivial⟩) ?_; clear hK K
  refine d_yg 15 ha27 rfl rfl rfl rfl rfl (fun _ => (m26.to ⟨.inl rfl, trivial⟩)) (by kernel_rfl) (by kernel_rfl) (by kernel_rfl) (by rfl) (fun _ _ _ h => h) (fun W => y_not ha27 rfl) ?_
  clear ha27 a27; intro a28 ha28
  refine d_y 16 ha28 rfl rfl (fun _ => (m26.to ⟨.inl rfl, trivial⟩)) (by kernel_rfl) (by kernel_rfl) (by kernel_rfl) (by rfl) (fun _ _ _ h => h) (fun W => y_pickF ha28 rfl rfl) ?_
  clear ha28 a28; intro a29 ha29
  refine d_y 17 ha29 rfl rfl (fun _ => (m26.to ⟨.inl rfl, trivial⟩)) (by kernel_rfl) (by kernel_rfl) (by kernel_rfl) (by rfl) (fun _ _ _ h => h) (fun W => y_move ha29 rfl) ?_
  clear ha29 a29; intro a30 ha30
  refine d_yg 18 ha30 rfl rfl rfl rfl rfl (fun _ => (m26.to ⟨.inl rfl, trivial⟩)) (by kernel_rfl) (by kernel_rfl) (by kernel_rfl) (by rfl) (fun _ _ _ h => h) (fun W => y_move ha30 rfl) ?_
  clear ha30 a30; intro a31 ha31
  refine d_yg 20 ha31 rfl rfl rfl rfl rfl (fun _ => (m26.to ⟨.inl rfl, trivial⟩)) (by kernel_rfl) (by kernel_rfl) (by kernel_rfl) (by rfl) (fun _ _ _ h => h) (fun W => y_move ha31 rfl) ?_
  clear ha31 a31; intro a32 ha32
  refine d_yg 21 ha32 rfl rfl rfl rfl rfl (fun _ => (m26.to ⟨.inl rfl, trivial⟩)) (by kernel_rfl) (by kernel_rfl) (by kernel_rfl) (by rfl) (fun _ _ _ h => h) (fun W => y_nilCheck ha32 rfl) ?_
  clear ha32 a32; intro a33 ha33
  refine d_yg 22 ha33 rfl rfl rfl rfl rfl (fun _ => (m26.to ⟨.inl rfl, trivial⟩)) (by kernel_rfl) (by kernel_rfl) (by kernel_rfl) (by rfl) (fun _ _ _ h => h) (fun W => y_fieldAddr ha33 (off := 4) rfl Try.underlying41 rfl (s := 0) (by kernel_rfl) rfl) ?_
  clear ha33 a33; intro a34 ha34
  refine d_hg 23 ha34 rfl rfl rfl rfl rfl (m26.to ⟨.inl rfl, trivial⟩) (by kernel_rfl) (by kernel_rfl) (by kernel_rfl) (by kernel_rfl) (by kernel_rfl) (fun _ _ _ h => h) (fun W hW => y_loadB1 ha34 hW (i := 11) rfl rfl rfl Try.underlying29 rfl) ?_
  clear ha34 a34; intro a35 ha35
  refine stepE_only 19 rfl (by kernel_rfl) (wantedG ha35 rfl rfl rfl rfl) (fun K hK => ?_)
  refine e_call ha35 Try.func30 rfl rfl rfl rfl (from_is _ bi bt cf d es _ _ _ _ _ _ _ 0 1000 (m26.ok 1 _ rfl : Res.ok _ _ _ _ (.box _ _ _)).1 ((m26.ok 2 _ rfl : Res.ok _ _ _ _ (.seg _ _ _ _)).1.rd (S' := fun _ => True) (fun _ _ _ => trivial) (fun _ _ => trivial)) (by omega) (by omega) hok (part := es) hall) ?_
  rintro e w36 ⟨p36, c36, rfl, hd36, hb36⟩
  have m37 := m26.callF 42 rfl hb36 hd36
  clear m26
  clear hb36 hd36
  refine ⟨_, rfl, fun a38 ha38 => ?_⟩; clear ha35 a35
  refine hK _ _ (m37.to ⟨.inl rfl, trivial⟩) ?_; clear hK K
  refine stepE_only 24 rfl (by kernel_rfl) (wantedG ha38 rfl rfl rfl rfl) (fun K hK => ?_)
  refine e_call ha38 Try.func15 rfl rfl rfl rfl (sameS_any es _ _ _ _ _ (by omega) ((m37.rd (i := 42) rfl).any) (((m37.ok 12 _ rfl : Res.ok _ _ _ _ (.seg _ _ _ _)).1.rd (S' := fun _ => True) (fun _ _ _ => trivial) (fun _ _ => trivial)))) ?_
  rintro e w39 ⟨rfl, hb39⟩
  have m40 := m37.later hb39
  clear m37
  clear hb39
  refine ⟨_, rfl, fun a41 ha41 => ?_⟩; clear ha38 a38
  refine hK _ _ (m40.to ⟨.inl rfl, trivial⟩) ?_; clear hK K
  refine d_yg 25 ha41 rfl rfl rfl rfl rfl (fun _ => (m40.to ⟨.inl rfl, trivial⟩)) (by kernel_rfl) (by kernel_rfl) (by kernel_rfl) (by rfl) (fun _ _ _ h => h) (fun W => y_not ha41 rfl) ?_
  clear ha41 a41; intro a42 ha42
  refine d_y 26 ha42 rfl rfl (fun _ => (m40.to ⟨.inl rfl, trivial⟩)) (by kernel_rfl) (by kernel_rfl) (by kernel_rfl) (by rfl) (fun _ _ _ h => h) (fun W => y_pickF ha42 rfl rfl) ?_
  clear ha42 a42; intro a43 ha43
  refine wpAnyE_done (by kernel_rfl) ?_ _
  refine hK2 _ _ ?_; clear hK2; try clear K2
  refine wp_cond_false (ha43.ev (x := .tmp 34) rfl) ?_
  refine wp_skip ?_
  refine hK1 _ _ ?_; clear hK1; try clear K1
  refine wp_seq_k (fun K3 hK3 => ?_)
  refine wp_seq_k (fun K4 hK4 => ?_)
  have ha44 : Has 77 [(0, _), (1, _), (2, _), (6, _)] a43 := ha43.only [0, 1, 2, 6]; clear ha43
  refine wp_region_lit ?_
  refine st_y ha44 rfl (y_move ha44 rfl) ?_
  clear ha44 a43; intro a45 ha45
  refine st_y ha45 rfl (y_nilCheck ha45 rfl) ?_
  clear ha45 a45; intro a46 ha46
  refine st_y ha46 rfl (y_fieldAddr ha46 (off := 0) rfl Try.underlying41 rfl (s := 3) (by kernel_rfl) rfl) ?_
  clear ha46 a46; intro a47 ha47
  refine st_y ha47 rfl (y_fieldAddr ha47 (off := 0) rfl Try.underlying28 rfl (s := 0) (by kernel_rfl) rfl) ?_
  clear ha47 a47; intro a48 ha48
  refine st_y ha48 rfl (y_loadB1 ha48 m40 (i := 11) rfl rfl rfl Try.underlying3 rfl) ?_
  clear ha48 a48; intro a49 ha49
  refine st_y ha49 rfl (y_sub ha49 rfl rfl (r := bi - 2) (IntWalk.i64_in _ (by omega))) ?_
  clear ha49 a49; intro a50 ha50
  refine st_y ha50 rfl (y_assign ha50 rfl) ?_
  clear ha50 a50; intro a51 ha51
  refine wpList_nil ?_
  refine hK4 _ _ ?_; clear hK4; try clear K4
  refine wp_block ?_
  refine wp_loop_ghost (fun g a w => ∃ (j : Nat) (tt : Int) (pl2 : Option Addr) (cl2 : Nat), j ≤ es.length + 5 ∧ g = es.length + 5 - j ∧ tt = bi - 2 + (j : Int) ∧ Has 77 [(0, .pointer (some ⟨B, 0, none⟩)), (1, .pointer (some ⟨C, 0, none⟩)), (2, .int .i64 nq), (7, .int .i64 tt)] a ∧ MemOk X w0 [(1, .box B 56 [.int .i64 bi, .int .i64 bt, .slice pc cf.length cc, .slice pd d.length cd, .slice pl (es.map entD).length cl]), (2, .seg (.slice pl (es.map entD).length cl) 32 4 (es.map entD)), (3, .dat (.slice pc cf.length cc) (.ns .i64 cf)), (4, .dat (.slice pd d.length cd) (.ns .u8 d)), (11, .box C 41 [.int .i64 bi, .int .i64 bt, .slice pc2 cf.length cc2, .slice pd2 d.length cd2, .slice pl2 (es.map entD).length cl2]), (12, .seg (.slice pl2 (es.map entD).length cl2) 32 4 (es.map entD)), (13, .dat (.slice pc2 cf.length cc2) (.ns .i64 cf)), (14, .dat (.slice pd2 d.length cd2) (.ns .u8 d))] w) (es.length + 5) ?_ ?_
  · exact ⟨0, _, _, _, Nat.zero_le _, rfl, (Int.add_zero _).symm, ha51.only [0, 1, 2, 7], m40.only [1, 2, 3, 4, 11, 12, 13, 14]⟩
  · skip
    clear ha51 m40
    rintro g a52 w52 ⟨j, tt, pl2, cl2, hjl, hg, rfl, ha52, m52⟩
    refine wp_seq_k (fun K5 hK5 => ?_)
    refine wp_seq_k (fun K6 hK6 => ?_)
    refine wp_region_lit ?_
    refine st_y ha52 rfl (y_move ha52 rfl) ?_
    clear ha52 a52; intro a53 ha53
    refine st_y ha53 rfl (y_move ha53 rfl) ?_
    clear ha53 a53; intro a54 ha54
    refine wpList_plain rfl (fun K hK => ?_)
    refine e_call ha54 Try.func21 rfl rfl rfl rfl (rlast_any _ _ _ cf d es _ _ _ _ _ _ _ (m52.ok 11 _ rfl : Res.ok _ _ _ _ (.box _ _ _)).1 ((m52.ok 12 _ rfl : Res.ok _ _ _ _ (.seg _ _ _ _)).1.rd (S' := fun _ => True) (fun _ _ _ => trivial) (fun _ _ => trivial)) (by omega) (by omega)) ?_
    rintro e w55 ⟨rfl, hb55⟩
    have m56 := m52.later hb55
    clear m52
    clear hb55
    refine ⟨_, rfl, fun a57 ha57 => ?_⟩; clear ha54 a54
    refine hK _ _ ?_; clear hK K
    refine st_y ha57 rfl (y_add ha57 rfl rfl (r := bi + es.length + 2) (IntWalk.i64_in _ (by omega))) ?_
    clear ha57 a57; intro a58 ha58
    refine st_y ha58 rfl (y_leq ha58 rfl rfl) ?_
    clear ha58 a58; intro a59 ha59
    refine wpList_nil ?_
    refine hK6 _ _ ?_; clear hK6; try clear K6
    refine bool_cases ha59 (t := 45) rfl (fun hb60 ha60 => ?_) (fun hb60 ha60 => ?_)
    · skip
      clear ha59
      try simp only [decide_eq_true_eq, decide_eq_false_iff_not, Bool.not_eq_true, Bool.not_eq_false, Bool.not_eq_eq_eq_not, Bool.not_true, Bool.not_false, Bool.not_not, Int.not_lt, Int.not_le, ne_eq, Decidable.not_not] at hb60
      have hj : j ≤ es.length + 4 := by omega
      obtain ⟨pt, hpt⟩ : ∃ x, fromL bi es (bi - 2 + (j : Int)) nq = x := ⟨_, rfl⟩
      have hpt2 : rfr es (bi - 2 + (j : Int)) nq es.length = pt := by rw [rfr_seq hsq _ (Nat.le_refl _), List.take_length]; exact hpt
      have hptl : pt.length ≤ es.length := by rw [← hpt]; unfold fromL; rw [List.length_take, List.length_drop]; omega
      refine wp_cond_true (ha60.ev (x := .tmp 45) rfl) ?_
      refine wp_skip ?_
      refine hK5 _ _ ?_; clear hK5; try clear K5
      refine wp_seq_k (fun K7 hK7 => ?_)
      refine wp_block ?_
      refine wp_seq_k (fun K8 hK8 => ?_)
      refine wp_region_lit ?_
      refine st_y ha60 rfl (y_move ha60 rfl) ?_
      clear ha60 a59; intro a61 ha61
      refine st_y ha61 rfl (y_move ha61 rfl) ?_
      clear ha61 a61; intro a62 ha62
      refine wpList_plain rfl (fun K hK => ?_)
      refine e_call ha62 Try.func26 rfl rfl rfl rfl (term_any _ bi bt cf d es _ _ _ _ _ _ _ _ (m56.ok 1 _ rfl : Res.ok _ _ _ _ (.box _ _ _)).1 ((m56.ok 2 _ rfl : Res.ok _ _ _ _ (.seg _ _ _ _)).1.rd (S' := fun _ => True) (fun _ _ _ => trivial) (fun _ _ => trivial)) (by omega) (by omega)) ?_
      rintro e w63 ⟨rfl, hb63⟩
      have m64 := m56.later hb63
      clear m56
      clear hb63
      refine ⟨_, rfl, fun a65 ha65 => ?_⟩; clear ha62 a62
      refine hK _ _ ?_; clear hK K
      refine st_y ha65 rfl (y_move ha65 rfl) ?_
      clear ha65 a65; intro a66 ha66
      refine st_y ha66 rfl (y_move ha66 rfl) ?_
      clear ha66 a66; intro a67 ha67
      refine wpList_plain rfl (fun K hK => ?_)
      refine e_call ha67 Try.func12 rfl rfl rfl rfl (rterm_any _ bi bt cf d es _ _ _ _ _ _ _ _ (m64.ok 11 _ rfl : Res.ok _ _ _ _ (.box _ _ _)).1 ((m64.ok 12 _ rfl : Res.ok _ _ _ _ (.seg _ _ _ _)).1.rd (S' := fun _ => True) (fun _ _ _ => trivial) (fun _ _ => trivial)) (by omega) (by omega)) ?_
      rintro e w68 ⟨rfl, hb68⟩
      have m69 := m64.later hb68
      clear m64
      clear hb68
      refine ⟨_, rfl, fun a70 ha70 => ?_⟩; clear ha67 a67
      refine hK _ _ ?_; clear hK K
      refine st_y ha70 rfl (y_neq ha70 rfl rfl) ?_
      clear ha70 a70; intro a71 ha71
      refine st_y ha71 rfl (y_move ha71 rfl) ?_
      clear ha71 a71; intro a72 ha72
      refine bool_cases ha72 (t := 55) rfl (fun hb73 ha73 => ?_) (fun hb73 ha73 => ?_)
      · exact absurd hb73 (by simp)
      clear ha72 hb73
      refine st_g ha73 rfl rfl rfl rfl (y_move ha73 rfl) ?_
      clear ha73 a72; intro a74 ha74
      refine st_g ha74 rfl rfl rfl rfl (y_move ha74 rfl) ?_
      clear ha74 a74; intro a75 ha75
      refine st_ge ha75 rfl rfl rfl rfl (fun K hK => ?_)
      refine e_call ha75 Try.func29 rfl rfl rfl rfl (conf_any _ _ _ cf d es _ _ _ _ _ _ _ _ (m69.ok 1 _ rfl : Res.ok _ _ _ _ (.box _ _ _)).1 ((m69.ok 2 _ rfl : Res.ok _ _ _ _ (.seg _ _ _ _)).1.rd (S' := fun _ => True) (fun _ _ _ => trivial) (fun _ _ => trivial)) (by omega) (m69.rd (i := 3) rfl).any hcf heb) ?_
      rintro e w76 ⟨p76, c76, rfl, hd76, hb76⟩
      have m77 := m69.callF 100 rfl hb76 hd76
      clear m69
      clear hb76 hd76
      refine ⟨_, rfl, fun a78 ha78 => ?_⟩; clear ha75 a75
      refine hK _ _ ?_; clear hK K
      refine st_g ha78 rfl rfl rfl rfl (y_move ha78 rfl) ?_
      clear ha78 a78; intro a79 ha79
      refine st_g ha79 rfl rfl rfl rfl (y_move ha79 rfl) ?_
      clear ha79 a79; intro a80 ha80
      refine st_ge ha80 rfl rfl rfl rfl (fun K hK => ?_)
      refine e_call ha80 Try.func33 rfl rfl rfl rfl (rconf_any _ _ _ cf d es _ _ _ _ _ _ _ _ (m77.ok 11 _ rfl : Res.ok _ _ _ _ (.box _ _ _)).1 ((m77.ok 12 _ rfl : Res.ok _ _ _ _ (.seg _ _ _ _)).1.rd (S' := fun _ => True) (fun _ _ _ => trivial) (fun _ _ => trivial)) (by omega) (m77.rd (i := 13) rfl).any hcf heb her) ?_
      rintro e w81 ⟨p81, c81, rfl, hd81, hb81⟩
      have m82 := m77.callF 101 rfl hb81 hd81
      clear m77
      clear hb81 hd81
      refine ⟨_, rfl, fun a83 ha83 => ?_⟩; clear ha80 a80
      refine hK _ _ ?_; clear hK K
      refine st_ge ha83 rfl rfl rfl rfl (fun K hK => ?_)
      refine e_call ha83 Try.func28 rfl rfl rfl rfl (ints_same (confL cf es (bi - 2 + (j : Int))) _ _ _ _ _ (by have := confL_len9 hcf es (bi - 2 + (j : Int)); omega) ((m82.rd (i := 100) rfl).any) ((m82.rd (i := 101) rfl).any)) ?_
      rintro e w84 ⟨rfl, hb84⟩
      have m85 := m82.later hb84
      clear m82
      clear hb84
      refine ⟨_, rfl, fun a86 ha86 => ?_⟩; clear ha83 a83
      refine hK _ _ ?_; clear hK K
      refine st_g ha86 rfl rfl rfl rfl (y_not ha86 rfl) ?_
      clear ha86 a86; intro a87 ha87
      refine st_y ha87 rfl (y_pickF ha87 rfl rfl) ?_
      clear ha87 a87; intro a88 ha88
      refine st_y ha88 rfl (y_move ha88 rfl) ?_
      clear ha88 a88; intro a89 ha89
      refine st_g ha89 rfl rfl rfl rfl (y_move ha89 rfl) ?_
      clear ha89 a89; intro a90 ha90
      refine st_g ha90 rfl rfl rfl rfl (y_move ha90 rfl) ?_
      clear ha90 a90; intro a91 ha91
      refine st_g ha91 rfl rfl rfl rfl (y_move ha91 rfl) ?_
      clear ha91 a91; intro a92 ha92
      refine st_ge ha92 rfl rfl rfl rfl (fun K hK => ?_)
      refine e_call ha92 Try.func30 rfl rfl rfl rfl (from_is _ bi bt cf d es _ _ _ _ _ _ _ _ nq (m85.ok 1 _ rfl : Res.ok _ _ _ _ (.box _ _ _)).1 ((m85.ok 2 _ rfl : Res.ok _ _ _ _ (.seg _ _ _ _)).1.rd (S' := fun _ => True) (fun _ _ _ => trivial) (fun _ _ => trivial)) (by omega) (by omega) hok (part := pt) hpt) ?_
      rintro e w93 ⟨p93, c93, rfl, hd93, hb93⟩
      have m94 := m85.callF 102 rfl hb93 hd93
      clear m85
      clear hb93 hd93
      refine ⟨_, rfl, fun a95 ha95 => ?_⟩; clear ha92 a92
      refine hK _ _ ?_; clear hK K
      refine st_g ha95 rfl rfl rfl rfl (y_move ha95 rfl) ?_
      clear ha95 a95; intro a96 ha96
      refine st_g ha96 rfl rfl rfl rfl (y_move ha96 rfl) ?_
      clear ha96 a96; intro a97 ha97
      refine st_g ha97 rfl rfl rfl rfl (y_move ha97 rfl) ?_
      clear ha97 a97; intro a98 ha98
      refine st_ge ha98 rfl rfl rfl rfl (fun K hK => ?_)
      refine e_call ha98 Try.func24 rfl rfl rfl rfl (rfrom_fr _ _ bi bt cf d es _ _ _ _ _ _ (bi - 2 + (j : Int)) nq _ (by omega) (m94.into [(1, 11), (2, 12), (3, 13), (4, 14)] (by decide) rfl)) ?_
      rintro e w99 ⟨pl99, cl99, pr99, cr99, rfl, hm99⟩
      have mx99 := m94.back hm99 [(11, 1), (12, 2), (13, 3), (14, 4), (30, 5)] (by decide); clear hm99 m94
      have m99 : MemOk _ _ [(11, _), (12, _), (13, _), (14, _), (30, _), (1, _), (2, _), (3, _), (4, _), (100, _), (101, _), (102, _)] _ := mx99.only [11, 12, 13, 14, 30, 1, 2, 3, 4, 100, 101, 102]; clear mx99
      refine ⟨_, rfl, fun a100 ha100 => ?_⟩; clear ha98 a98
      refine hK _ _ ?_; clear hK K
      rw [hpt2] at m99 ha100
      refine st_ge ha100 rfl rfl rfl rfl (fun K hK => ?_)
      refine e_call ha100 Try.func15 rfl rfl rfl rfl (sameS_any pt _ _ _ _ _ (by omega) ((m99.rd (i := 102) rfl).any) ((m99.rd (i := 30) rfl).any)) ?_
      rintro e w101 ⟨rfl, hb101⟩
      have m102 := m99.later hb101
      clear m99
      clear hb101
      refine ⟨_, rfl, fun a103 ha103 => ?_⟩; clear ha100 a100
      refine hK _ _ ?_; clear hK K
      refine st_g ha103 rfl rfl rfl rfl (y_not ha103 rfl) ?_
      clear ha103 a103; intro a104 ha104
      refine st_y ha104 rfl (y_pickF ha104 rfl rfl) ?_
      clear ha104 a104; intro a105 ha105
      refine wpList_nil ?_
      refine hK8 _ _ ?_; clear hK8; try clear K8
      refine wp_cond_false (ha105.ev (x := .tmp 76) rfl) ?_
      refine wp_skip ?_
      refine hK7 _ _ ?_; clear hK7; try clear K7
      have ha106 : Has 77 [(0, _), (1, _), (2, _), (7, _)] a105 := ha105.only [0, 1, 2, 7]; clear ha105
      refine wp_region_lit ?_
      refine st_y ha106 rfl (y_move ha106 rfl) ?_
      clear ha106 a105; intro a107 ha107
      refine st_y ha107 rfl (y_add ha107 rfl rfl (r := bi - 2 + ((j + 1 : Nat) : Int)) (by rw [IntWalk.i64_in _ (by omega)]; omega)) ?_
      clear ha107 a107; intro a108 ha108
      refine st_y ha108 rfl (y_assign ha108 rfl) ?_
      clear ha108 a108; intro a109 ha109
      refine wpList_nil ?_
      show ∃ n', n' < _ ∧ _
      exact ⟨es.length + 5 - (j + 1), by omega, j + 1, _, _, _, by omega, rfl, rfl, ha109.only [0, 1, 2, 7], m102.only [1, 2, 3, 4, 11, 12, 13, 14]⟩
    · skip
      clear ha59
      try simp only [decide_eq_true_eq, decide_eq_false_iff_not, Bool.not_eq_true, Bool.not_eq_false, Bool.not_eq_eq_eq_not, Bool.not_true, Bool.not_false, Bool.not_not, Int.not_lt, Int.not_le, ne_eq, Decidable.not_not] at hb60
      refine wp_cond_false (ha60.ev (x := .tmp 45) rfl) ?_
      refine wp_exit ?_
      refine hK3 _ _ ?_; clear hK3; try clear K3
      refine wp_seq_k (fun K9 hK9 => ?_)
      refine wp_region_lit ?_
      refine st_y ha60 rfl (y_assign ha60 rfl) ?_
      clear ha60 a59; intro a110 ha110
      refine wpList_nil ?_
      refine hK9 _ _ ?_; clear hK9; try clear K9
      refine wp_ret ?_
      try dsimp only [Exit.then, Exit.inBlock]
      refine (ret1 (fn := Try.f11) ha110 rfl rfl ?_)
      exact ⟨_, _, rfl, m56.only [1, 2, 3, 4, 11, 12, 13, 14]⟩
end Go.Proofs.Ytmdckdhogbbhlaa.K
