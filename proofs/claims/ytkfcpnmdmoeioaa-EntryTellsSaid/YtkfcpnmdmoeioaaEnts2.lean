/- mementoseat.Entries. -/
import Derived.Test.YtkfcpnmdmoeioaaEnts1
import Derived.Test.YtkfcpnmdmoeioaaAb6
namespace Go.Proofs.Ytkfcpnmdmoeioaa.K
open Go.ChangeShapes Go.WideShapes Go.ChangeAt Go.RowKit
set_option linter.unusedVariables false
set_option linter.unusedSimpArgs false

theorem fl24 : flatS Try.prog 24 [.int .i64 0, .int .i64 0, .int .i64 0, .slice none 0 0] = true := by kernel_rfl
theorem inf5 : (Try.prog.info? 5).map (fun i => (i.zero, i.size, i.bytes)) = some (some (.int .u8 0), 1, 1) := by kernel_rfl
theorem inf24 : (Try.prog.info? 24).map (fun i => (i.zero, i.size, i.bytes)) = some (some (.agg #[.int .i64 0, .int .i64 0, .int .i64 0, .slice none 0 0]), 4, 48) := by kernel_rfl
theorem sz3 : (Try.prog.info? 3).map (·.size) = some 1 := by kernel_rfl
theorem sz5 : (Try.prog.info? 5).map (·.size) = some 1 := by kernel_rfl
theorem sz22 : (Try.prog.info? 22).map (·.size) = some 1 := by kernel_rfl
theorem sz24 : (Try.prog.info? 24).map (·.size) = some 4 := by kernel_rfl
theorem zc24 : ((Try.prog.info? 24).bind (·.zero)).map (·.cells.toList) = some [.int .i64 0, .int .i64 0, .int .i64 0, .slice none 0 0] := by kernel_rfl

theorem entOf_big {F tm x i : Int} (h : 230 < x) : entOf F tm x i = (F + i, tm, 2, [x % 5, x / 5 % 2]) := by unfold entOf; rw [if_pos h, if_pos h]
theorem entOf_cmd {F tm x i : Int} (h : ¬ 230 < x) (h1 : x / 5 % 2 = 1) : entOf F tm x i = (F + i, tm, x / 5 % 2, [x, i]) := by unfold entOf; rw [if_neg h, if_neg h, if_pos h1]
theorem entOf_no {F tm x i : Int} (h : ¬ 230 < x) (h1 : ¬ x / 5 % 2 = 1) : entOf F tm x i = (F + i, tm, x / 5 % 2, []) := by unfold entOf; rw [if_neg h, if_neg h, if_neg h1]
def entD (e : Int × Int × Int × List Int) : List D := [.v (.int .i64 e.1), .v (.int .i64 e.2.1), .v (.int .i64 e.2.2.1), .ns .u8 e.2.2.2]
set_option maxRecDepth 100000 in
set_option maxHeartbeats 4000000 in
theorem ents_any (S : Nat → Prop) (F : Int) (l : List Int) (p : Option Addr) (c : Nat) (w0 : World) (hl0 : Rd S w0 (.slice p l.length c) (.ns .u8 l)) (hF : 0 ≤ F ∧ F ≤ 1000000) (hn : l.length ≤ 256) (hb : ∀ j, j < l.length → 0 ≤ l.getD j 0 ∧ l.getD j 0 ≤ 255) :
    Calls Try.prog 7 #[.int .i64 F, .slice p l.length c] w0 fun e w' => ∃ po co, e = .returned (.slice po l.length co) ∧ RowOk w0.heap.size (fun b => Out S w0 b ∧ (Value.slice po l.length co).ownBlock ≠ some b) w' (.slice po l.length co) 24 4 ((entsN F l l.length).map entD) ∧ Below w0.heap.size w0 w' := by
  refine enter (fn := Try.f7) Try.func7 rfl Try.ntmps7 rfl (fun a0 ha0 => ?_)
  replace ha0 : Has 71 [(0, _), (1, _)] a0 := ha0
  have m0 := (MemOk.start S w0).dat 1 rfl (hl0.cast (fun _ h => free_nil (fun _ => h)))
  refine wp_seq_k (fun K0 hK0 => ?_)
  refine wp_region_lit ?_
  refine st_y ha0 rfl (y_assign ha0 rfl) ?_
  clear ha0 a0; intro a1 ha1
  refine wpList_nil ?_
  refine hK0 _ _ ?_; clear hK0; try clear K0
  refine wp_seq_k (fun K1 hK1 => ?_)
  refine wp_region_lit ?_
  have m2 := m0.nilR 2 24 4
  clear m0
  refine st_y ha1 rfl (y_assign ha1 rfl) ?_
  clear ha1 a1; intro a3 ha3
  refine wpList_nil ?_
  refine hK1 _ _ ?_; clear hK1; try clear K1
  refine wp_seq_k (fun K2 hK2 => ?_)
  refine wp_region_lit ?_
  refine st_y ha3 rfl (y_assign ha3 rfl) ?_
  clear ha3 a3; intro a4 ha4
  refine wpList_nil ?_
  refine hK2 _ _ ?_; clear hK2; try clear K2
  refine wp_seq_k (fun K3 hK3 => ?_)
  refine wp_seq_k (fun K4 hK4 => ?_)
  refine wp_region_lit ?_
  refine st_y ha4 rfl (y_assign ha4 rfl) ?_
  clear ha4 a4; intro a5 ha5
  refine wpList_nil ?_
  refine hK4 _ _ ?_; clear hK4; try clear K4
  refine wp_block ?_
  refine wp_loop_ghost (fun g a w => ∃ (k : Nat) (po : Option Addr) (co : Nat), k ≤ l.length ∧ g = l.length - k ∧ Has 71 [(0, .int .i64 F), (1, .slice p l.length c), (5, .slice po ((entsN F l k).map entD).length co), (6, .int .i64 (termN l k)), (7, .int .i64 k)] a ∧ MemOk (cx S w0) w0 [(1, .dat (.slice p l.length c) (.ns .u8 l)), (2, .row (.slice po ((entsN F l k).map entD).length co) 24 4 ((entsN F l k).map entD))] w) (l.length) ?_ ?_
  · exact ⟨0, none, 0, Nat.zero_le _, rfl, ha5.only [0, 1, 5, 6, 7], m2.only [1, 2]⟩
  · skip
    clear ha5 m2
    rintro g a6 w6 ⟨k, po, co, hkl, hg, ha6, m6⟩
    refine wp_seq_k (fun K5 hK5 => ?_)
    refine wp_seq_k (fun K6 hK6 => ?_)
    refine wp_region_lit ?_
    refine st_y ha6 rfl (y_move ha6 rfl) ?_
    clear ha6 a6; intro a7 ha7
    refine st_y ha7 rfl (y_move ha7 rfl) ?_
    clear ha7 a7; intro a8 ha8
    refine st_y ha8 rfl (y_len ha8 rfl Try.underlying22) ?_
    clear ha8 a8; intro a9 ha9
    refine st_y ha9 rfl (y_lss ha9 rfl rfl) ?_
    clear ha9 a9; intro a10 ha10
    refine wpList_nil ?_
    refine hK6 _ _ ?_; clear hK6; try clear K6
    refine bool_cases ha10 (t := 12) rfl (fun hb11 ha11 => ?_) (fun hb11 ha11 => ?_)
    · skip
      clear ha10
      try simp only [decide_eq_true_eq, decide_eq_false_iff_not, Bool.not_eq_true, Bool.not_eq_false, Bool.not_eq_eq_eq_not, Bool.not_true, Bool.not_false, Bool.not_not, Int.not_lt, Int.not_le, ne_eq, Decidable.not_not] at hb11
      have hk : k < l.length := by omega
      have hx := hb k hk
      have ht := termN_bd l hb k (by omega)
      have ht1 : termN l k + l.getD k 0 % 5 / 4 = termN l (k + 1) := rfl
      have ht2 := termN_bd l hb (k + 1) hk
      refine wp_cond_true (ha11.ev (x := .tmp 12) rfl) ?_
      refine wp_skip ?_
      refine hK5 _ _ ?_; clear hK5; try clear K5
      refine wp_seq_k (fun K7 hK7 => ?_)
      refine wp_block ?_
      refine wp_seq_k (fun K8 hK8 => ?_)
      refine wp_region_lit ?_
      refine st_y ha11 rfl (y_move ha11 rfl) ?_
      clear ha11 a10; intro a12 ha12
      refine st_y ha12 rfl (y_move ha12 rfl) ?_
      clear ha12 a12; intro a13 ha13
      refine st_y ha13 rfl (y_move ha13 rfl) ?_
      clear ha13 a13; intro a14 ha14
      obtain ⟨b15, o15, hp15, m15⟩ := m6.openN (i := 1) rfl (k) hk 100 rfl
      cases hp15; clear m6
      refine st_y ha14 rfl (y_idx ha14 rfl rfl Try.underlying22 sz5 (k) rfl hk) ?_
      clear ha14 a14; intro a16 ha16
      refine st_y ha16 rfl (y_loadC0 ha16 m15 (i := 100) rfl rfl Try.underlying5 rfl) ?_
      clear ha16 a16; intro a17 ha17
      refine st_y ha17 rfl (y_rem ha17 rfl rfl (by decide) (Int.tmod_eq_emod_of_nonneg (by omega))) ?_
      clear ha17 a17; intro a18 ha18
      refine st_y ha18 rfl (y_quo ha18 rfl rfl (by decide) (r := l.getD k 0 % 5 / 4) (by rw [Int.tdiv_eq_ediv_of_nonneg (by omega)]; exact IntWalk.u8_in _ (by omega))) ?_
      clear ha18 a18; intro a19 ha19
      refine st_y ha19 rfl (y_conv ha19 rfl Try.underlying5 Try.underlying3 (IntWalk.i64_in _ (by omega))) ?_
      clear ha19 a19; intro a20 ha20
      refine st_y ha20 rfl (y_add ha20 rfl rfl (r := termN l (k + 1)) (by rw [ht1]; exact IntWalk.i64_in _ (by omega))) ?_
      clear ha20 a20; intro a21 ha21
      refine st_y ha21 rfl (y_assign ha21 rfl) ?_
      clear ha21 a21; intro a22 ha22
      refine wpList_nil ?_
      refine hK8 _ _ ?_; clear hK8; try clear K8
      refine wp_seq_k (fun K9 hK9 => ?_)
      refine wp_region_lit ?_
      refine st_y ha22 rfl (y_move ha22 rfl) ?_
      clear ha22 a22; intro a23 ha23
      refine st_y ha23 rfl (y_move ha23 rfl) ?_
      clear ha23 a23; intro a24 ha24
      refine st_y ha24 rfl (y_add ha24 rfl rfl (IntWalk.i64_in _ (by omega))) ?_
      clear ha24 a24; intro a25 ha25
      refine st_y ha25 rfl (y_move ha25 rfl) ?_
      clear ha25 a25; intro a26 ha26
      refine st_y ha26 rfl (y_move ha26 rfl) ?_
      clear ha26 a26; intro a27 ha27
      refine st_y ha27 rfl (y_move ha27 rfl) ?_
      clear ha27 a27; intro a28 ha28
      obtain ⟨b29, o29, hp29, m29⟩ := m15.openN (i := 1) rfl (k) hk 101 rfl
      cases hp29; clear m15
      refine st_y ha28 rfl (y_idx ha28 rfl rfl Try.underlying22 sz5 (k) rfl hk) ?_
      clear ha28 a28; intro a30 ha30
      refine st_y ha30 rfl (y_loadC0 ha30 m29 (i := 101) rfl rfl Try.underlying5 rfl) ?_
      clear ha30 a30; intro a31 ha31
      refine st_y ha31 rfl (y_quo ha31 rfl rfl (by decide) (r := l.getD k 0 / 5) (by rw [Int.tdiv_eq_ediv_of_nonneg (by omega)]; exact IntWalk.u8_in _ (by omega))) ?_
      clear ha31 a31; intro a32 ha32
      refine st_y ha32 rfl (y_conv ha32 rfl Try.underlying5 Try.underlying3 (IntWalk.i64_in _ (by omega))) ?_
      clear ha32 a32; intro a33 ha33
      refine st_y ha33 rfl (y_rem ha33 rfl rfl (by decide) (Int.tmod_eq_emod_of_nonneg (by omega))) ?_
      clear ha33 a33; intro a34 ha34
      refine st_y ha34 rfl (y_build ha34 rfl zc24 fl24 rfl (by dsimp only [setL, List.set] <;> rfl)) ?_
      clear ha34 a34; intro a35 ha35
      refine wpList_plain rfl (fun K hK => ?_)
      refine e_alloc ha35 m29 102 zc24 rfl ?_
      clear ha35 a35 m29; intro g36 a37 w37 ha37 m37 hB37 hg37
      clear hB37 hg37
      refine hK _ _ ?_; clear hK K
      refine wpList_plain rfl (fun K hK => ?_)
      refine e_storeW ha37 m37 102 rfl rfl rfl rfl rfl sz24 ?_
      clear m37; intro w38 m38 hB38
      clear hB38
      refine hK _ _ ?_; clear hK K
      refine wpList_nil ?_
      refine hK9 _ _ ?_; clear hK9; try clear K9
      refine wp_seq_k (fun K10 hK10 => ?_)
      refine wp_seq_k (fun K11 hK11 => ?_)
      refine wp_region_lit ?_
      refine st_y ha37 rfl (y_fieldAddr ha37 (off := 2) rfl Try.underlying24 rfl (s := 0) (by kernel_rfl) rfl) ?_
      clear ha37 a37; intro a39 ha39
      refine st_y ha39 rfl (y_loadB1 ha39 m38 (i := 102) rfl rfl rfl Try.underlying3 rfl) ?_
      clear ha39 a39; intro a40 ha40
      refine st_y ha40 rfl (y_eql ha40 rfl rfl) ?_
      clear ha40 a40; intro a41 ha41
      refine wpList_nil ?_
      refine hK11 _ _ ?_; clear hK11; try clear K11
      refine bool_cases ha41 (t := 38) rfl (fun hb42 ha42 => ?_) (fun hb42 ha42 => ?_)
      · skip
        clear ha41
        try simp only [decide_eq_true_eq, decide_eq_false_iff_not, Bool.not_eq_true, Bool.not_eq_false, Bool.not_eq_eq_eq_not, Bool.not_true, Bool.not_false, Bool.not_not, Int.not_lt, Int.not_le, ne_eq, Decidable.not_not] at hb42
        refine wp_cond_true (ha42.ev (x := .tmp 38) rfl) ?_
        refine wp_region_lit ?_
        refine st_y ha42 rfl (y_move ha42 rfl) ?_
        clear ha42 a41; intro a43 ha43
        refine st_y ha43 rfl (y_move ha43 rfl) ?_
        clear ha43 a43; intro a44 ha44
        obtain ⟨b45, o45, hp45, m45⟩ := m38.openN (i := 1) rfl (k) hk 103 rfl
        cases hp45; clear m38
        refine st_y ha44 rfl (y_idx ha44 rfl rfl Try.underlying22 sz5 (k) rfl hk) ?_
        clear ha44 a44; intro a46 ha46
        refine st_y ha46 rfl (y_loadC0 ha46 m45 (i := 103) rfl rfl Try.underlying5 rfl) ?_
        clear ha46 a46; intro a47 ha47
        refine st_y ha47 rfl (y_move ha47 rfl) ?_
        clear ha47 a47; intro a48 ha48
        refine st_y ha48 rfl (y_conv ha48 rfl Try.underlying3 Try.underlying5 (IntWalk.u8_in _ (by omega))) ?_
        clear ha48 a48; intro a49 ha49
        refine wpList_plain rfl (fun K hK => ?_)
        refine e_litN ha49 m45 104 (k := .u8) rfl rfl Try.underlying22 inf5 rfl rfl rfl rfl ?_
        clear ha49 a49 m45; intro g50 a51 w51 ha51 m51 
        refine hK _ _ ?_; clear hK K
        refine st_y ha51 rfl (y_fieldAddr ha51 (off := 3) rfl Try.underlying24 rfl (s := 0) (by kernel_rfl) rfl) ?_
        clear ha51 a51; intro a52 ha52
        refine wpList_plain rfl (fun K hK => ?_)
        refine e_store1 ha52 m51 102 rfl rfl rfl rfl rfl sz22 (by dsimp only [List.set] <;> rfl) ?_
        clear m51; intro w53 m53 hB53
        clear hB53
        refine hK _ _ ?_; clear hK K
        refine wpList_nil ?_
        refine hK10 _ _ ?_; clear hK10; try clear K10
        refine wp_seq_k (fun K12 hK12 => ?_)
        refine wp_seq_k (fun K13 hK13 => ?_)
        refine wp_region_lit ?_
        refine st_y ha52 rfl (y_move ha52 rfl) ?_
        clear ha52 a52; intro a54 ha54
        refine st_y ha54 rfl (y_move ha54 rfl) ?_
        clear ha54 a54; intro a55 ha55
        obtain ⟨b56, o56, hp56, m56⟩ := m53.openN (i := 1) rfl (k) hk 105 rfl
        cases hp56; clear m53
        refine st_y ha55 rfl (y_idx ha55 rfl rfl Try.underlying22 sz5 (k) rfl hk) ?_
        clear ha55 a55; intro a57 ha57
        refine st_y ha57 rfl (y_loadC0 ha57 m56 (i := 105) rfl rfl Try.underlying5 rfl) ?_
        clear ha57 a57; intro a58 ha58
        refine st_y ha58 rfl (y_gtr ha58 rfl rfl) ?_
        clear ha58 a58; intro a59 ha59
        refine wpList_nil ?_
        refine hK13 _ _ ?_; clear hK13; try clear K13
        refine bool_cases ha59 (t := 51) rfl (fun hb60 ha60 => ?_) (fun hb60 ha60 => ?_)
        · skip
          clear ha59
          try simp only [decide_eq_true_eq, decide_eq_false_iff_not, Bool.not_eq_true, Bool.not_eq_false, Bool.not_eq_eq_eq_not, Bool.not_true, Bool.not_false, Bool.not_not, Int.not_lt, Int.not_le, ne_eq, Decidable.not_not] at hb60
          refine wp_cond_true (ha60.ev (x := .tmp 51) rfl) ?_
          obtain ⟨b61, o61, hp61, m61⟩ := m56.openN (i := 1) rfl (k) hk 106 rfl
          cases hp61; clear m56
          obtain ⟨b62, o62, hp62, m62⟩ := m61.openN (i := 1) rfl (k) hk 107 rfl
          cases hp62; clear m61
          have m63 : MemOk _ _ [(1, _), (2, _), (100, _), (101, _), (102, _), (103, _), (104, _), (105, _), (106, _), (107, _)] _ := m62.only [1, 2, 100, 101, 102, 103, 104, 105, 106, 107]; clear m62
          refine region_m 15 (B := [(1, _), (2, _), (100, _), (101, _), (102, .any _), (103, _), (104, _), (105, _), (106, _), (107, _)]) (m63.to ⟨.inl rfl, .inl rfl, .inl rfl, .inl rfl, .inr ⟨_, _, _, rfl, rfl⟩, .inl rfl, .inl rfl, .inl rfl, .inl rfl, .inl rfl, trivial⟩) m63 (by kernel_rfl) (fun w64 mB64 m64 => ?_); clear m63 mB64
          refine d_y 0 ha60 rfl rfl (fun _ => (m64.to ⟨.inl rfl, .inl rfl, .inl rfl, .inl rfl, .inr ⟨_, _, _, rfl, rfl⟩, .inl rfl, .inl rfl, .inl rfl, .inl rfl, .inl rfl, trivial⟩)) (by kernel_rfl) (by kernel_rfl) (by kernel_rfl) (by rfl) (fun _ _ _ h => h) (fun W => y_move ha60 rfl) ?_
          clear ha60 a59; intro a65 ha65
          refine d_y 1 ha65 rfl rfl (fun _ => (m64.to ⟨.inl rfl, .inl rfl, .inl rfl, .inl rfl, .inr ⟨_, _, _, rfl, rfl⟩, .inl rfl, .inl rfl, .inl rfl, .inl rfl, .inl rfl, trivial⟩)) (by kernel_rfl) (by kernel_rfl) (by kernel_rfl) (by rfl) (fun _ _ _ h => h) (fun W => y_move ha65 rfl) ?_
          clear ha65 a65; intro a66 ha66
          refine d_y 2 ha66 rfl rfl (fun _ => (m64.to ⟨.inl rfl, .inl rfl, .inl rfl, .inl rfl, .inr ⟨_, _, _, rfl, rfl⟩, .inl rfl, .inl rfl, .inl rfl, .inl rfl, .inl rfl, trivial⟩)) (by kernel_rfl) (by kernel_rfl) (by kernel_rfl) (by rfl) (fun _ _ _ h => h) (fun W => y_idx ha66 rfl rfl Try.underlying22 sz5 (k) rfl hk) ?_
          clear ha66 a66; intro a67 ha67
          refine d_r 3 ha67 rfl rfl (m64.to ⟨.inl rfl, .inl rfl, .inl rfl, .inl rfl, .inr ⟨_, _, _, rfl, rfl⟩, .inl rfl, .inl rfl, .inl rfl, .inl rfl, .inl rfl, trivial⟩) (by kernel_rfl) (by kernel_rfl) (by kernel_rfl) (by kernel_rfl) (by kernel_rfl) (fun _ _ _ h => h) (fun W hW => y_loadC0 ha67 hW (i := 106) rfl rfl Try.underlying5 rfl) ?_
          clear ha67 a67; intro a68 ha68
          refine d_y 4 ha68 rfl rfl (fun _ => (m64.to ⟨.inl rfl, .inl rfl, .inl rfl, .inl rfl, .inr ⟨_, _, _, rfl, rfl⟩, .inl rfl, .inl rfl, .inl rfl, .inl rfl, .inl rfl, trivial⟩)) (by kernel_rfl) (by kernel_rfl) (by kernel_rfl) (by rfl) (fun _ _ _ h => h) (fun W => y_rem ha68 rfl rfl (by decide) (Int.tmod_eq_emod_of_nonneg (by omega))) ?_
          clear ha68 a68; intro a69 ha69
          refine d_y 5 ha69 rfl rfl (fun _ => (m64.to ⟨.inl rfl, .inl rfl, .inl rfl, .inl rfl, .inr ⟨_, _, _, rfl, rfl⟩, .inl rfl, .inl rfl, .inl rfl, .inl rfl, .inl rfl, trivial⟩)) (by kernel_rfl) (by kernel_rfl) (by kernel_rfl) (by rfl) (fun _ _ _ h => h) (fun W => y_move ha69 rfl) ?_
          clear ha69 a69; intro a70 ha70
          refine d_y 6 ha70 rfl rfl (fun _ => (m64.to ⟨.inl rfl, .inl rfl, .inl rfl, .inl rfl, .inr ⟨_, _, _, rfl, rfl⟩, .inl rfl, .inl rfl, .inl rfl, .inl rfl, .inl rfl, trivial⟩)) (by kernel_rfl) (by kernel_rfl) (by kernel_rfl) (by rfl) (fun _ _ _ h => h) (fun W => y_move ha70 rfl) ?_
          clear ha70 a70; intro a71 ha71
          refine d_y 7 ha71 rfl rfl (fun _ => (m64.to ⟨.inl rfl, .inl rfl, .inl rfl, .inl rfl, .inr ⟨_, _, _, rfl, rfl⟩, .inl rfl, .inl rfl, .inl rfl, .inl rfl, .inl rfl, trivial⟩)) (by kernel_rfl) (by kernel_rfl) (by kernel_rfl) (by rfl) (fun _ _ _ h => h) (fun W => y_idx ha71 rfl rfl Try.underlying22 sz5 (k) rfl hk) ?_
          clear ha71 a71; intro a72 ha72
          refine d_r 8 ha72 rfl rfl (m64.to ⟨.inl rfl, .inl rfl, .inl rfl, .inl rfl, .inr ⟨_, _, _, rfl, rfl⟩, .inl rfl, .inl rfl, .inl rfl, .inl rfl, .inl rfl, trivial⟩) (by kernel_rfl) (by kernel_rfl) (by kernel_rfl) (by kernel_rfl) (by kernel_rfl) (fun _ _ _ h => h) (fun W hW => y_loadC0 ha72 hW (i := 107) rfl rfl Try.underlying5 rfl) ?_
          clear ha72 a72; intro a73 ha73
          refine d_y 9 ha73 rfl rfl (fun _ => (m64.to ⟨.inl rfl, .inl rfl, .inl rfl, .inl rfl, .inr ⟨_, _, _, rfl, rfl⟩, .inl rfl, .inl rfl, .inl rfl, .inl rfl, .inl rfl, trivial⟩)) (by kernel_rfl) (by kernel_rfl) (by kernel_rfl) (by rfl) (fun _ _ _ h => h) (fun W => y_quo ha73 rfl rfl (by decide) (r := l.getD k 0 / 5) (by rw [Int.tdiv_eq_ediv_of_nonneg (by omega)]; exact IntWalk.u8_in _ (by omega))) ?_
          clear ha73 a73; intro a74 ha74
          refine d_y 10 ha74 rfl rfl (fun _ => (m64.to ⟨.inl rfl, .inl rfl, .inl rfl, .inl rfl, .inr ⟨_, _, _, rfl, rfl⟩, .inl rfl, .inl rfl, .inl rfl, .inl rfl, .inl rfl, trivial⟩)) (by kernel_rfl) (by kernel_rfl) (by kernel_rfl) (by rfl) (fun _ _ _ h => h) (fun W => y_rem ha74 rfl rfl (by decide) (Int.tmod_eq_emod_of_nonneg (by omega))) ?_
          clear ha74 a74; intro a75 ha75
          refine d_y 12 ha75 rfl rfl (fun _ => (m64.to ⟨.inl rfl, .inl rfl, .inl rfl, .inl rfl, .inr ⟨_, _, _, rfl, rfl⟩, .inl rfl, .inl rfl, .inl rfl, .inl rfl, .inl rfl, trivial⟩)) (by kernel_rfl) (by kernel_rfl) (by kernel_rfl) (by rfl) (fun _ _ _ h => h) (fun W => y_fieldAddr ha75 (off := 2) rfl Try.underlying24 rfl (s := 0) (by kernel_rfl) rfl) ?_
          clear ha75 a75; intro a76 ha76
          refine d_two 11 13 rfl rfl (by kernel_rfl) rfl rfl (fun K hK => ?_) (fun K hK => ?_)
          · skip
            refine e_litN ha76 m64 108 (k := .u8) rfl rfl Try.underlying22 inf5 rfl rfl rfl rfl ?_
            clear ha76 a76 m64; intro g77 a78 w78 ha78 m78 
            refine hK _ _ (fun _ => (m78.to ⟨.inl rfl, .inl rfl, .inl rfl, .inl rfl, .inr ⟨_, _, _, rfl, rfl⟩, .inl rfl, .inl rfl, .inl rfl, .inl rfl, .inl rfl, trivial⟩)) ?_; clear hK K
            refine stepE_only 13 rfl (by kernel_rfl) rfl (fun K hK => ?_)
            refine e_store1 ha78 m78 102 rfl rfl rfl rfl rfl sz3 (by dsimp only [List.set] <;> rfl) ?_
            clear m78; intro w79 m79 hB79
            clear hB79
            refine hK _ _ (m79.to ⟨.inl rfl, .inl rfl, .inl rfl, .inl rfl, .inr ⟨_, _, _, rfl, rfl⟩, .inl rfl, .inl rfl, .inl rfl, .inl rfl, .inl rfl, trivial⟩) ?_; clear hK K
            refine d_y 14 ha78 rfl rfl (fun _ => (m79.to ⟨.inl rfl, .inl rfl, .inl rfl, .inl rfl, .inr ⟨_, _, _, rfl, rfl⟩, .inl rfl, .inl rfl, .inl rfl, .inl rfl, .inl rfl, trivial⟩)) (by kernel_rfl) (by kernel_rfl) (by kernel_rfl) (by rfl) (fun _ _ _ h => h) (fun W => y_fieldAddr ha78 (off := 3) rfl Try.underlying24 rfl (s := 0) (by kernel_rfl) rfl) ?_
            clear ha78 a78; intro a80 ha80
            refine stepE_end 15 rfl (by kernel_rfl) rfl (by rfl) (fun K hK => ?_)
            refine e_store1 ha80 m79 102 rfl rfl rfl rfl rfl sz22 (by dsimp only [List.set] <;> rfl) ?_
            clear m79; intro w81 m81 hB81
            clear hB81
            refine hK _ _ ?_; clear hK K
            refine wpAnyE_done (by kernel_rfl) ?_ _
            refine hK12 _ _ ?_; clear hK12; try clear K12
            refine wp_region_lit ?_
            refine st_y ha80 rfl (y_move ha80 rfl) ?_
            clear ha80 a80; intro a82 ha82
            refine st_y ha82 rfl (y_loadBR ha82 m81 (i := 102) rfl rfl Try.underlying24 rfl sz24 (by simp) (by dsimp only [List.drop, List.take] <;> rfl)) ?_
            clear ha82 a82; intro a83 ha83
            have m85 := m81.freezeN 108 rfl; clear m81
            refine wpList_plain rfl (fun K hK => ?_)
            refine e_litR ha83 m85 109 (mm := 4) rfl (.cons rfl rfl (.cons (.v _) (.cons (.v _) (.cons (.v _) (.cons (m85.rd (i := 108) rfl) .nil)))) <| .nil) Try.underlying29 inf24 rfl rfl rfl rfl rfl ?_
            clear ha83 a83 m85; intro g84 a86 w86 ha86 m86 
            refine hK _ _ ?_; clear hK K
            have m88 := m86.freezeR 109 rfl; clear m86
            refine wpList_plain rfl (fun K hK => ?_)
            refine e_appR ha86 m88 2 rfl rfl rfl (m88.rd (i := 109) rfl) Try.underlying29 inf24 rfl rfl (by decide) (by simp [entsN_len]; omega) rfl ?_
            clear ha86 a86 m88; intro p87 c87 a89 w89 ha89 m89 
            refine hK _ _ ?_; clear hK K
            refine st_y ha89 rfl (y_assign ha89 rfl) ?_
            clear ha89 a89; intro a90 ha90
            refine wpList_nil ?_
            refine hK7 _ _ ?_; clear hK7; try clear K7
            refine wp_region_lit ?_
            refine st_y ha90 rfl (y_move ha90 rfl) ?_
            clear ha90 a90; intro a91 ha91
            refine st_y ha91 rfl (y_add ha91 rfl rfl (r := ((k + 1 : Nat) : Int)) (by rw [IntWalk.i64_in _ (by omega)]; omega)) ?_
            clear ha91 a91; intro a92 ha92
            refine st_y ha92 rfl (y_assign ha92 rfl) ?_
            clear ha92 a92; intro a93 ha93
            refine wpList_nil ?_
            show ∃ n', n' < _ ∧ _
            have hE : (entsN F l k).map entD ++ [[D.v (.int .i64 (F + k)), .v (.int .i64 (termN l (k + 1))), .v (.int .i64 (2)), .ns .u8 [l.getD k 0 % 5, l.getD k 0 / 5 % 2]]] = (entsN F l (k + 1)).map entD := by
              rw [show entsN F l (k + 1) = entsN F l k ++ [entOf F (termN l (k + 1)) (l.getD k 0) k] from rfl, entOf_big hb60, List.map_append]; rfl
            rw [hE] at m89 ha93
            exact ⟨l.length - (k + 1), by omega, k + 1, _, _, by omega, rfl, ha93.only [0, 1, 5, 6, 7], m89.only [1, 2]⟩
          · skip
            refine e_store1 ha76 m64 102 rfl rfl rfl rfl rfl sz3 (by dsimp only [List.set] <;> rfl) ?_
            clear m64; intro w94 m94 hB94
            clear hB94
            refine hK _ _ (fun _ => (m94.to ⟨.inl rfl, .inl rfl, .inl rfl, .inl rfl, .inr ⟨_, _, _, rfl, rfl⟩, .inl rfl, .inl rfl, .inl rfl, .inl rfl, .inl rfl, trivial⟩)) ?_; clear hK K
            refine stepE_only 11 rfl (by kernel_rfl) rfl (fun K hK => ?_)
            refine e_litN ha76 m94 108 (k := .u8) rfl rfl Try.underlying22 inf5 rfl rfl rfl rfl ?_
            clear ha76 a76 m94; intro g95 a96 w96 ha96 m96 
            refine hK _ _ (m96.to ⟨.inl rfl, .inl rfl, .inl rfl, .inl rfl, .inr ⟨_, _, _, rfl, rfl⟩, .inl rfl, .inl rfl, .inl rfl, .inl rfl, .inl rfl, trivial⟩) ?_; clear hK K
            refine d_y 14 ha96 rfl rfl (fun _ => (m96.to ⟨.inl rfl, .inl rfl, .inl rfl, .inl rfl, .inr ⟨_, _, _, rfl, rfl⟩, .inl rfl, .inl rfl, .inl rfl, .inl rfl, .inl rfl, trivial⟩)) (by kernel_rfl) (by kernel_rfl) (by kernel_rfl) (by rfl) (fun _ _ _ h => h) (fun W => y_fieldAddr ha96 (off := 3) rfl Try.underlying24 rfl (s := 0) (by kernel_rfl) rfl) ?_
            clear ha96 a96; intro a97 ha97
            refine stepE_end 15 rfl (by kernel_rfl) rfl (by rfl) (fun K hK => ?_)
            refine e_store1 ha97 m96 102 rfl rfl rfl rfl rfl sz22 (by dsimp only [List.set] <;> rfl) ?_
            clear m96; intro w98 m98 hB98
            clear hB98
            refine hK _ _ ?_; clear hK K
            refine wpAnyE_done (by kernel_rfl) ?_ _
            refine hK12 _ _ ?_; clear hK12; try clear K12
            refine wp_region_lit ?_
            refine st_y ha97 rfl (y_move ha97 rfl) ?_
            clear ha97 a97; intro a99 ha99
            refine st_y ha99 rfl (y_loadBR ha99 m98 (i := 102) rfl rfl Try.underlying24 rfl sz24 (by simp) (by dsimp only [List.drop, List.take] <;> rfl)) ?_
            clear ha99 a99; intro a100 ha100
            have m102 := m98.freezeN 108 rfl; clear m98
            refine wpList_plain rfl (fun K hK => ?_)
            refine e_litR ha100 m102 109 (mm := 4) rfl (.cons rfl rfl (.cons (.v _) (.cons (.v _) (.cons (.v _) (.cons (m102.rd (i := 108) rfl) .nil)))) <| .nil) Try.underlying29 inf24 rfl rfl rfl rfl rfl ?_
            clear ha100 a100 m102; intro g101 a103 w103 ha103 m103 
            refine hK _ _ ?_; clear hK K
            have m105 := m103.freezeR 109 rfl; clear m103
            refine wpList_plain rfl (fun K hK => ?_)
            refine e_appR ha103 m105 2 rfl rfl rfl (m105.rd (i := 109) rfl) Try.underlying29 inf24 rfl rfl (by decide) (by simp [entsN_len]; omega) rfl ?_
            clear ha103 a103 m105; intro p104 c104 a106 w106 ha106 m106 
            refine hK _ _ ?_; clear hK K
            refine st_y ha106 rfl (y_assign ha106 rfl) ?_
            clear ha106 a106; intro a107 ha107
            refine wpList_nil ?_
            refine hK7 _ _ ?_; clear hK7; try clear K7
            refine wp_region_lit ?_
            refine st_y ha107 rfl (y_move ha107 rfl) ?_
            clear ha107 a107; intro a108 ha108
            refine st_y ha108 rfl (y_add ha108 rfl rfl (r := ((k + 1 : Nat) : Int)) (by rw [IntWalk.i64_in _ (by omega)]; omega)) ?_
            clear ha108 a108; intro a109 ha109
            refine st_y ha109 rfl (y_assign ha109 rfl) ?_
            clear ha109 a109; intro a110 ha110
            refine wpList_nil ?_
            show ∃ n', n' < _ ∧ _
            have hE : (entsN F l k).map entD ++ [[D.v (.int .i64 (F + k)), .v (.int .i64 (termN l (k + 1))), .v (.int .i64 (2)), .ns .u8 [l.getD k 0 % 5, l.getD k 0 / 5 % 2]]] = (entsN F l (k + 1)).map entD := by
              rw [show entsN F l (k + 1) = entsN F l k ++ [entOf F (termN l (k + 1)) (l.getD k 0) k] from rfl, entOf_big hb60, List.map_append]; rfl
            rw [hE] at m106 ha110
            exact ⟨l.length - (k + 1), by omega, k + 1, _, _, by omega, rfl, ha110.only [0, 1, 5, 6, 7], m106.only [1, 2]⟩
        · skip
          clear ha59
          try simp only [decide_eq_true_eq, decide_eq_false_iff_not, Bool.not_eq_true, Bool.not_eq_false, Bool.not_eq_eq_eq_not, Bool.not_true, Bool.not_false, Bool.not_not, Int.not_lt, Int.not_le, ne_eq, Decidable.not_not] at hb60
          refine wp_cond_false (ha60.ev (x := .tmp 51) rfl) ?_
          refine wp_skip ?_
          refine hK12 _ _ ?_; clear hK12; try clear K12
          refine wp_region_lit ?_
          refine st_y ha60 rfl (y_move ha60 rfl) ?_
          clear ha60 a59; intro a111 ha111
          refine st_y ha111 rfl (y_loadBR ha111 m56 (i := 102) rfl rfl Try.underlying24 rfl sz24 (by simp) (by dsimp only [List.drop, List.take] <;> rfl)) ?_
          clear ha111 a111; intro a112 ha112
          have m114 := m56.freezeN 104 rfl; clear m56
          refine wpList_plain rfl (fun K hK => ?_)
          refine e_litR ha112 m114 106 (mm := 4) rfl (.cons rfl rfl (.cons (.v _) (.cons (.v _) (.cons (.v _) (.cons (m114.rd (i := 104) rfl) .nil)))) <| .nil) Try.underlying29 inf24 rfl rfl rfl rfl rfl ?_
          clear ha112 a112 m114; intro g113 a115 w115 ha115 m115 
          refine hK _ _ ?_; clear hK K
          have m117 := m115.freezeR 106 rfl; clear m115
          refine wpList_plain rfl (fun K hK => ?_)
          refine e_appR ha115 m117 2 rfl rfl rfl (m117.rd (i := 106) rfl) Try.underlying29 inf24 rfl rfl (by decide) (by simp [entsN_len]; omega) rfl ?_
          clear ha115 a115 m117; intro p116 c116 a118 w118 ha118 m118 
          refine hK _ _ ?_; clear hK K
          refine st_y ha118 rfl (y_assign ha118 rfl) ?_
          clear ha118 a118; intro a119 ha119
          refine wpList_nil ?_
          refine hK7 _ _ ?_; clear hK7; try clear K7
          refine wp_region_lit ?_
          refine st_y ha119 rfl (y_move ha119 rfl) ?_
          clear ha119 a119; intro a120 ha120
          refine st_y ha120 rfl (y_add ha120 rfl rfl (r := ((k + 1 : Nat) : Int)) (by rw [IntWalk.i64_in _ (by omega)]; omega)) ?_
          clear ha120 a120; intro a121 ha121
          refine st_y ha121 rfl (y_assign ha121 rfl) ?_
          clear ha121 a121; intro a122 ha122
          refine wpList_nil ?_
          show ∃ n', n' < _ ∧ _
          have hE : (entsN F l k).map entD ++ [[D.v (.int .i64 (F + k)), .v (.int .i64 (termN l (k + 1))), .v (.int .i64 (l.getD k 0 / 5 % 2)), .ns .u8 [l.getD k 0, (k : Int)]]] = (entsN F l (k + 1)).map entD := by
            rw [show entsN F l (k + 1) = entsN F l k ++ [entOf F (termN l (k + 1)) (l.getD k 0) k] from rfl, entOf_cmd (by omega) hb42, List.map_append]; rfl
          rw [hE] at m118 ha122
          exact ⟨l.length - (k + 1), by omega, k + 1, _, _, by omega, rfl, ha122.only [0, 1, 5, 6, 7], m118.only [1, 2]⟩
      · skip
        clear ha41
        try simp only [decide_eq_true_eq, decide_eq_false_iff_not, Bool.not_eq_true, Bool.not_eq_false, Bool.not_eq_eq_eq_not, Bool.not_true, Bool.not_false, Bool.not_not, Int.not_lt, Int.not_le, ne_eq, Decidable.not_not] at hb42
        refine wp_cond_false (ha42.ev (x := .tmp 38) rfl) ?_
        refine wp_skip ?_
        refine hK10 _ _ ?_; clear hK10; try clear K10
        refine wp_seq_k (fun K14 hK14 => ?_)
        refine wp_seq_k (fun K15 hK15 => ?_)
        refine wp_region_lit ?_
        refine st_y ha42 rfl (y_move ha42 rfl) ?_
        clear ha42 a41; intro a123 ha123
        refine st_y ha123 rfl (y_move ha123 rfl) ?_
        clear ha123 a123; intro a124 ha124
        obtain ⟨b125, o125, hp125, m125⟩ := m38.openN (i := 1) rfl (k) hk 103 rfl
        cases hp125; clear m38
        refine st_y ha124 rfl (y_idx ha124 rfl rfl Try.underlying22 sz5 (k) rfl hk) ?_
        clear ha124 a124; intro a126 ha126
        refine st_y ha126 rfl (y_loadC0 ha126 m125 (i := 103) rfl rfl Try.underlying5 rfl) ?_
        clear ha126 a126; intro a127 ha127
        refine st_y ha127 rfl (y_gtr ha127 rfl rfl) ?_
        clear ha127 a127; intro a128 ha128
        refine wpList_nil ?_
        refine hK15 _ _ ?_; clear hK15; try clear K15
        refine bool_cases ha128 (t := 51) rfl (fun hb129 ha129 => ?_) (fun hb129 ha129 => ?_)
        · skip
          clear ha128
          try simp only [decide_eq_true_eq, decide_eq_false_iff_not, Bool.not_eq_true, Bool.not_eq_false, Bool.not_eq_eq_eq_not, Bool.not_true, Bool.not_false, Bool.not_not, Int.not_lt, Int.not_le, ne_eq, Decidable.not_not] at hb129
          refine wp_cond_true (ha129.ev (x := .tmp 51) rfl) ?_
          obtain ⟨b130, o130, hp130, m130⟩ := m125.openN (i := 1) rfl (k) hk 104 rfl
          cases hp130; clear m125
          obtain ⟨b131, o131, hp131, m131⟩ := m130.openN (i := 1) rfl (k) hk 105 rfl
          cases hp131; clear m130
          have m132 : MemOk _ _ [(1, _), (2, _), (100, _), (101, _), (102, _), (103, _), (104, _), (105, _)] _ := m131.only [1, 2, 100, 101, 102, 103, 104, 105]; clear m131
          refine region_m 15 (B := [(1, _), (2, _), (100, _), (101, _), (102, .any _), (103, _), (104, _), (105, _)]) (m132.to ⟨.inl rfl, .inl rfl, .inl rfl, .inl rfl, .inr ⟨_, _, _, rfl, rfl⟩, .inl rfl, .inl rfl, .inl rfl, trivial⟩) m132 (by kernel_rfl) (fun w133 mB133 m133 => ?_); clear m132 mB133
          refine d_y 0 ha129 rfl rfl (fun _ => (m133.to ⟨.inl rfl, .inl rfl, .inl rfl, .inl rfl, .inr ⟨_, _, _, rfl, rfl⟩, .inl rfl, .inl rfl, .inl rfl, trivial⟩)) (by kernel_rfl) (by kernel_rfl) (by kernel_rfl) (by rfl) (fun _ _ _ h => h) (fun W => y_move ha129 rfl) ?_
          clear ha129 a128; intro a134 ha134
          refine d_y 1 ha134 rfl rfl (fun _ => (m133.to ⟨.inl rfl, .inl rfl, .inl rfl, .inl rfl, .inr ⟨_, _, _, rfl, rfl⟩, .inl rfl, .inl rfl, .inl rfl, trivial⟩)) (by kernel_rfl) (by kernel_rfl) (by kernel_rfl) (by rfl) (fun _ _ _ h => h) (fun W => y_move ha134 rfl) ?_
          clear ha134 a134; intro a135 ha135
          refine d_y 2 ha135 rfl rfl (fun _ => (m133.to ⟨.inl rfl, .inl rfl, .inl rfl, .inl rfl, .inr ⟨_, _, _, rfl, rfl⟩, .inl rfl, .inl rfl, .inl rfl, trivial⟩)) (by kernel_rfl) (by kernel_rfl) (by kernel_rfl) (by rfl) (fun _ _ _ h => h) (fun W => y_idx ha135 rfl rfl Try.underlying22 sz5 (k) rfl hk) ?_
          clear ha135 a135; intro a136 ha136
          refine d_r 3 ha136 rfl rfl (m133.to ⟨.inl rfl, .inl rfl, .inl rfl, .inl rfl, .inr ⟨_, _, _, rfl, rfl⟩, .inl rfl, .inl rfl, .inl rfl, trivial⟩) (by kernel_rfl) (by kernel_rfl) (by kernel_rfl) (by kernel_rfl) (by kernel_rfl) (fun _ _ _ h => h) (fun W hW => y_loadC0 ha136 hW (i := 104) rfl rfl Try.underlying5 rfl) ?_
          clear ha136 a136; intro a137 ha137
          refine d_y 4 ha137 rfl rfl (fun _ => (m133.to ⟨.inl rfl, .inl rfl, .inl rfl, .inl rfl, .inr ⟨_, _, _, rfl, rfl⟩, .inl rfl, .inl rfl, .inl rfl, trivial⟩)) (by kernel_rfl) (by kernel_rfl) (by kernel_rfl) (by rfl) (fun _ _ _ h => h) (fun W => y_rem ha137 rfl rfl (by decide) (Int.tmod_eq_emod_of_nonneg (by omega))) ?_
          clear ha137 a137; intro a138 ha138
          refine d_y 5 ha138 rfl rfl (fun _ => (m133.to ⟨.inl rfl, .inl rfl, .inl rfl, .inl rfl, .inr ⟨_, _, _, rfl, rfl⟩, .inl rfl, .inl rfl, .inl rfl, trivial⟩)) (by kernel_rfl) (by kernel_rfl) (by kernel_rfl) (by rfl) (fun _ _ _ h => h) (fun W => y_move ha138 rfl) ?_
          clear ha138 a138; intro a139 ha139
          refine d_y 6 ha139 rfl rfl (fun _ => (m133.to ⟨.inl rfl, .inl rfl, .inl rfl, .inl rfl, .inr ⟨_, _, _, rfl, rfl⟩, .inl rfl, .inl rfl, .inl rfl, trivial⟩)) (by kernel_rfl) (by kernel_rfl) (by kernel_rfl) (by rfl) (fun _ _ _ h => h) (fun W => y_move ha139 rfl) ?_
          clear ha139 a139; intro a140 ha140
          refine d_y 7 ha140 rfl rfl (fun _ => (m133.to ⟨.inl rfl, .inl rfl, .inl rfl, .inl rfl, .inr ⟨_, _, _, rfl, rfl⟩, .inl rfl, .inl rfl, .inl rfl, trivial⟩)) (by kernel_rfl) (by kernel_rfl) (by kernel_rfl) (by rfl) (fun _ _ _ h => h) (fun W => y_idx ha140 rfl rfl Try.underlying22 sz5 (k) rfl hk) ?_
          clear ha140 a140; intro a141 ha141
          refine d_r 8 ha141 rfl rfl (m133.to ⟨.inl rfl, .inl rfl, .inl rfl, .inl rfl, .inr ⟨_, _, _, rfl, rfl⟩, .inl rfl, .inl rfl, .inl rfl, trivial⟩) (by kernel_rfl) (by kernel_rfl) (by kernel_rfl) (by kernel_rfl) (by kernel_rfl) (fun _ _ _ h => h) (fun W hW => y_loadC0 ha141 hW (i := 105) rfl rfl Try.underlying5 rfl) ?_
          clear ha141 a141; intro a142 ha142
          refine d_y 9 ha142 rfl rfl (fun _ => (m133.to ⟨.inl rfl, .inl rfl, .inl rfl, .inl rfl, .inr ⟨_, _, _, rfl, rfl⟩, .inl rfl, .inl rfl, .inl rfl, trivial⟩)) (by kernel_rfl) (by kernel_rfl) (by kernel_rfl) (by rfl) (fun _ _ _ h => h) (fun W => y_quo ha142 rfl rfl (by decide) (r := l.getD k 0 / 5) (by rw [Int.tdiv_eq_ediv_of_nonneg (by omega)]; exact IntWalk.u8_in _ (by omega))) ?_
          clear ha142 a142; intro a143 ha143
          refine d_y 10 ha143 rfl rfl (fun _ => (m133.to ⟨.inl rfl, .inl rfl, .inl rfl, .inl rfl, .inr ⟨_, _, _, rfl, rfl⟩, .inl rfl, .inl rfl, .inl rfl, trivial⟩)) (by kernel_rfl) (by kernel_rfl) (by kernel_rfl) (by rfl) (fun _ _ _ h => h) (fun W => y_rem ha143 rfl rfl (by decide) (Int.tmod_eq_emod_of_nonneg (by omega))) ?_
          clear ha143 a143; intro a144 ha144
          refine d_y 12 ha144 rfl rfl (fun _ => (m133.to ⟨.inl rfl, .inl rfl, .inl rfl, .inl rfl, .inr ⟨_, _, _, rfl, rfl⟩, .inl rfl, .inl rfl, .inl rfl, trivial⟩)) (by kernel_rfl) (by kernel_rfl) (by kernel_rfl) (by rfl) (fun _ _ _ h => h) (fun W => y_fieldAddr ha144 (off := 2) rfl Try.underlying24 rfl (s := 0) (by kernel_rfl) rfl) ?_
          clear ha144 a144; intro a145 ha145
          refine d_two 11 13 rfl rfl (by kernel_rfl) rfl rfl (fun K hK => ?_) (fun K hK => ?_)
          · skip
            refine e_litN ha145 m133 106 (k := .u8) rfl rfl Try.underlying22 inf5 rfl rfl rfl rfl ?_
            clear ha145 a145 m133; intro g146 a147 w147 ha147 m147 
            refine hK _ _ (fun _ => (m147.to ⟨.inl rfl, .inl rfl, .inl rfl, .inl rfl, .inr ⟨_, _, _, rfl, rfl⟩, .inl rfl, .inl rfl, .inl rfl, trivial⟩)) ?_; clear hK K
            refine stepE_only 13 rfl (by kernel_rfl) rfl (fun K hK => ?_)
            refine e_store1 ha147 m147 102 rfl rfl rfl rfl rfl sz3 (by dsimp only [List.set] <;> rfl) ?_
            clear m147; intro w148 m148 hB148
            clear hB148
            refine hK _ _ (m148.to ⟨.inl rfl, .inl rfl, .inl rfl, .inl rfl, .inr ⟨_, _, _, rfl, rfl⟩, .inl rfl, .inl rfl, .inl rfl, trivial⟩) ?_; clear hK K
            refine d_y 14 ha147 rfl rfl (fun _ => (m148.to ⟨.inl rfl, .inl rfl, .inl rfl, .inl rfl, .inr ⟨_, _, _, rfl, rfl⟩, .inl rfl, .inl rfl, .inl rfl, trivial⟩)) (by kernel_rfl) (by kernel_rfl) (by kernel_rfl) (by rfl) (fun _ _ _ h => h) (fun W => y_fieldAddr ha147 (off := 3) rfl Try.underlying24 rfl (s := 0) (by kernel_rfl) rfl) ?_
            clear ha147 a147; intro a149 ha149
            refine stepE_end 15 rfl (by kernel_rfl) rfl (by rfl) (fun K hK => ?_)
            refine e_store1 ha149 m148 102 rfl rfl rfl rfl rfl sz22 (by dsimp only [List.set] <;> rfl) ?_
            clear m148; intro w150 m150 hB150
            clear hB150
            refine hK _ _ ?_; clear hK K
            refine wpAnyE_done (by kernel_rfl) ?_ _
            refine hK14 _ _ ?_; clear hK14; try clear K14
            refine wp_region_lit ?_
            refine st_y ha149 rfl (y_move ha149 rfl) ?_
            clear ha149 a149; intro a151 ha151
            refine st_y ha151 rfl (y_loadBR ha151 m150 (i := 102) rfl rfl Try.underlying24 rfl sz24 (by simp) (by dsimp only [List.drop, List.take] <;> rfl)) ?_
            clear ha151 a151; intro a152 ha152
            have m154 := m150.freezeN 106 rfl; clear m150
            refine wpList_plain rfl (fun K hK => ?_)
            refine e_litR ha152 m154 107 (mm := 4) rfl (.cons rfl rfl (.cons (.v _) (.cons (.v _) (.cons (.v _) (.cons (m154.rd (i := 106) rfl) .nil)))) <| .nil) Try.underlying29 inf24 rfl rfl rfl rfl rfl ?_
            clear ha152 a152 m154; intro g153 a155 w155 ha155 m155 
            refine hK _ _ ?_; clear hK K
            have m157 := m155.freezeR 107 rfl; clear m155
            refine wpList_plain rfl (fun K hK => ?_)
            refine e_appR ha155 m157 2 rfl rfl rfl (m157.rd (i := 107) rfl) Try.underlying29 inf24 rfl rfl (by decide) (by simp [entsN_len]; omega) rfl ?_
            clear ha155 a155 m157; intro p156 c156 a158 w158 ha158 m158 
            refine hK _ _ ?_; clear hK K
            refine st_y ha158 rfl (y_assign ha158 rfl) ?_
            clear ha158 a158; intro a159 ha159
            refine wpList_nil ?_
            refine hK7 _ _ ?_; clear hK7; try clear K7
            refine wp_region_lit ?_
            refine st_y ha159 rfl (y_move ha159 rfl) ?_
            clear ha159 a159; intro a160 ha160
            refine st_y ha160 rfl (y_add ha160 rfl rfl (r := ((k + 1 : Nat) : Int)) (by rw [IntWalk.i64_in _ (by omega)]; omega)) ?_
            clear ha160 a160; intro a161 ha161
            refine st_y ha161 rfl (y_assign ha161 rfl) ?_
            clear ha161 a161; intro a162 ha162
            refine wpList_nil ?_
            show ∃ n', n' < _ ∧ _
            have hE : (entsN F l k).map entD ++ [[D.v (.int .i64 (F + k)), .v (.int .i64 (termN l (k + 1))), .v (.int .i64 (2)), .ns .u8 [l.getD k 0 % 5, l.getD k 0 / 5 % 2]]] = (entsN F l (k + 1)).map entD := by
              rw [show entsN F l (k + 1) = entsN F l k ++ [entOf F (termN l (k + 1)) (l.getD k 0) k] from rfl, entOf_big hb129, List.map_append]; rfl
            rw [hE] at m158 ha162
            exact ⟨l.length - (k + 1), by omega, k + 1, _, _, by omega, rfl, ha162.only [0, 1, 5, 6, 7], m158.only [1, 2]⟩
          · skip
            refine e_store1 ha145 m133 102 rfl rfl rfl rfl rfl sz3 (by dsimp only [List.set] <;> rfl) ?_
            clear m133; intro w163 m163 hB163
            clear hB163
            refine hK _ _ (fun _ => (m163.to ⟨.inl rfl, .inl rfl, .inl rfl, .inl rfl, .inr ⟨_, _, _, rfl, rfl⟩, .inl rfl, .inl rfl, .inl rfl, trivial⟩)) ?_; clear hK K
            refine stepE_only 11 rfl (by kernel_rfl) rfl (fun K hK => ?_)
            refine e_litN ha145 m163 106 (k := .u8) rfl rfl Try.underlying22 inf5 rfl rfl rfl rfl ?_
            clear ha145 a145 m163; intro g164 a165 w165 ha165 m165 
            refine hK _ _ (m165.to ⟨.inl rfl, .inl rfl, .inl rfl, .inl rfl, .inr ⟨_, _, _, rfl, rfl⟩, .inl rfl, .inl rfl, .inl rfl, trivial⟩) ?_; clear hK K
            refine d_y 14 ha165 rfl rfl (fun _ => (m165.to ⟨.inl rfl, .inl rfl, .inl rfl, .inl rfl, .inr ⟨_, _, _, rfl, rfl⟩, .inl rfl, .inl rfl, .inl rfl, trivial⟩)) (by kernel_rfl) (by kernel_rfl) (by kernel_rfl) (by rfl) (fun _ _ _ h => h) (fun W => y_fieldAddr ha165 (off := 3) rfl Try.underlying24 rfl (s := 0) (by kernel_rfl) rfl) ?_
            clear ha165 a165; intro a166 ha166
            refine stepE_end 15 rfl (by kernel_rfl) rfl (by rfl) (fun K hK => ?_)
            refine e_store1 ha166 m165 102 rfl rfl rfl rfl rfl sz22 (by dsimp only [List.set] <;> rfl) ?_
            clear m165; intro w167 m167 hB167
            clear hB167
            refine hK _ _ ?_; clear hK K
            refine wpAnyE_done (by kernel_rfl) ?_ _
            refine hK14 _ _ ?_; clear hK14; try clear K14
            refine wp_region_lit ?_
            refine st_y ha166 rfl (y_move ha166 rfl) ?_
            clear ha166 a166; intro a168 ha168
            refine st_y ha168 rfl (y_loadBR ha168 m167 (i := 102) rfl rfl Try.underlying24 rfl sz24 (by simp) (by dsimp only [List.drop, List.take] <;> rfl)) ?_
            clear ha168 a168; intro a169 ha169
            have m171 := m167.freezeN 106 rfl; clear m167
            refine wpList_plain rfl (fun K hK => ?_)
            refine e_litR ha169 m171 107 (mm := 4) rfl (.cons rfl rfl (.cons (.v _) (.cons (.v _) (.cons (.v _) (.cons (m171.rd (i := 106) rfl) .nil)))) <| .nil) Try.underlying29 inf24 rfl rfl rfl rfl rfl ?_
            clear ha169 a169 m171; intro g170 a172 w172 ha172 m172 
            refine hK _ _ ?_; clear hK K
            have m174 := m172.freezeR 107 rfl; clear m172
            refine wpList_plain rfl (fun K hK => ?_)
            refine e_appR ha172 m174 2 rfl rfl rfl (m174.rd (i := 107) rfl) Try.underlying29 inf24 rfl rfl (by decide) (by simp [entsN_len]; omega) rfl ?_
            clear ha172 a172 m174; intro p173 c173 a175 w175 ha175 m175 
            refine hK _ _ ?_; clear hK K
            refine st_y ha175 rfl (y_assign ha175 rfl) ?_
            clear ha175 a175; intro a176 ha176
            refine wpList_nil ?_
            refine hK7 _ _ ?_; clear hK7; try clear K7
            refine wp_region_lit ?_
            refine st_y ha176 rfl (y_move ha176 rfl) ?_
            clear ha176 a176; intro a177 ha177
            refine st_y ha177 rfl (y_add ha177 rfl rfl (r := ((k + 1 : Nat) : Int)) (by rw [IntWalk.i64_in _ (by omega)]; omega)) ?_
            clear ha177 a177; intro a178 ha178
            refine st_y ha178 rfl (y_assign ha178 rfl) ?_
            clear ha178 a178; intro a179 ha179
            refine wpList_nil ?_
            show ∃ n', n' < _ ∧ _
            have hE : (entsN F l k).map entD ++ [[D.v (.int .i64 (F + k)), .v (.int .i64 (termN l (k + 1))), .v (.int .i64 (2)), .ns .u8 [l.getD k 0 % 5, l.getD k 0 / 5 % 2]]] = (entsN F l (k + 1)).map entD := by
              rw [show entsN F l (k + 1) = entsN F l k ++ [entOf F (termN l (k + 1)) (l.getD k 0) k] from rfl, entOf_big hb129, List.map_append]; rfl
            rw [hE] at m175 ha179
            exact ⟨l.length - (k + 1), by omega, k + 1, _, _, by omega, rfl, ha179.only [0, 1, 5, 6, 7], m175.only [1, 2]⟩
        · skip
          clear ha128
          try simp only [decide_eq_true_eq, decide_eq_false_iff_not, Bool.not_eq_true, Bool.not_eq_false, Bool.not_eq_eq_eq_not, Bool.not_true, Bool.not_false, Bool.not_not, Int.not_lt, Int.not_le, ne_eq, Decidable.not_not] at hb129
          refine wp_cond_false (ha129.ev (x := .tmp 51) rfl) ?_
          refine wp_skip ?_
          refine hK14 _ _ ?_; clear hK14; try clear K14
          refine wp_region_lit ?_
          refine st_y ha129 rfl (y_move ha129 rfl) ?_
          clear ha129 a128; intro a180 ha180
          refine st_y ha180 rfl (y_loadBR ha180 m125 (i := 102) rfl rfl Try.underlying24 rfl sz24 (by simp) (by dsimp only [List.drop, List.take] <;> rfl)) ?_
          clear ha180 a180; intro a181 ha181
          refine wpList_plain rfl (fun K hK => ?_)
          refine e_litR ha181 m125 104 (mm := 4) rfl (.cons rfl rfl (.cons (.v _) (.cons (.v _) (.cons (.v _) (.cons (Rd.nilN _ _ .u8 _) .nil)))) <| .nil) Try.underlying29 inf24 rfl rfl rfl rfl rfl ?_
          clear ha181 a181 m125; intro g182 a183 w183 ha183 m183 
          refine hK _ _ ?_; clear hK K
          have m185 := m183.freezeR 104 rfl; clear m183
          refine wpList_plain rfl (fun K hK => ?_)
          refine e_appR ha183 m185 2 rfl rfl rfl (m185.rd (i := 104) rfl) Try.underlying29 inf24 rfl rfl (by decide) (by simp [entsN_len]; omega) rfl ?_
          clear ha183 a183 m185; intro p184 c184 a186 w186 ha186 m186 
          refine hK _ _ ?_; clear hK K
          refine st_y ha186 rfl (y_assign ha186 rfl) ?_
          clear ha186 a186; intro a187 ha187
          refine wpList_nil ?_
          refine hK7 _ _ ?_; clear hK7; try clear K7
          refine wp_region_lit ?_
          refine st_y ha187 rfl (y_move ha187 rfl) ?_
          clear ha187 a187; intro a188 ha188
          refine st_y ha188 rfl (y_add ha188 rfl rfl (r := ((k + 1 : Nat) : Int)) (by rw [IntWalk.i64_in _ (by omega)]; omega)) ?_
          clear ha188 a188; intro a189 ha189
          refine st_y ha189 rfl (y_assign ha189 rfl) ?_
          clear ha189 a189; intro a190 ha190
          refine wpList_nil ?_
          show ∃ n', n' < _ ∧ _
          have hE : (entsN F l k).map entD ++ [[D.v (.int .i64 (F + k)), .v (.int .i64 (termN l (k + 1))), .v (.int .i64 (l.getD k 0 / 5 % 2)), .ns .u8 []]] = (entsN F l (k + 1)).map entD := by
            rw [show entsN F l (k + 1) = entsN F l k ++ [entOf F (termN l (k + 1)) (l.getD k 0) k] from rfl, entOf_no (by omega) (by omega), List.map_append]; rfl
          rw [hE] at m186 ha190
          exact ⟨l.length - (k + 1), by omega, k + 1, _, _, by omega, rfl, ha190.only [0, 1, 5, 6, 7], m186.only [1, 2]⟩
    · skip
      clear ha10
      try simp only [decide_eq_true_eq, decide_eq_false_iff_not, Bool.not_eq_true, Bool.not_eq_false, Bool.not_eq_eq_eq_not, Bool.not_true, Bool.not_false, Bool.not_not, Int.not_lt, Int.not_le, ne_eq, Decidable.not_not] at hb11
      refine wp_cond_false (ha11.ev (x := .tmp 12) rfl) ?_
      refine wp_exit ?_
      refine hK3 _ _ ?_; clear hK3; try clear K3
      refine wp_seq_k (fun K16 hK16 => ?_)
      refine wp_region_lit ?_
      refine st_y ha11 rfl (y_move ha11 rfl) ?_
      clear ha11 a10; intro a191 ha191
      refine st_y ha191 rfl (y_assign ha191 rfl) ?_
      clear ha191 a191; intro a192 ha192
      refine wpList_nil ?_
      refine hK16 _ _ ?_; clear hK16; try clear K16
      refine wp_ret ?_
      refine (ret1 (fn := Try.f7) ha192 rfl rfl ?_)
      obtain rfl : k = l.length := by omega
      rw [List.length_map, entsN_len] at *
      exact ⟨_, _, rfl, m6.outR (i := 2) rfl, m6.below⟩
end Go.Proofs.Ytkfcpnmdmoeioaa.K
