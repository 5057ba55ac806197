/- NetCounts' walk. -/
import Derived.Test.YtnllgfmjcnjgdaaNet3
namespace Go.Proofs.Ytnllgfmjcnjgdaa.K
open Go.ChangeShapes Go.WideShapes Go.ChangeAt Go.RowKit
set_option linter.unusedVariables false
set_option linter.unusedSimpArgs false

theorem fl35p : flatS Try.prog 35 [.int .i64 0, .int .i64 0, .slice none 0 0] = true := by kernel_rfl
theorem inf5p : (Try.prog.info? 5).map (fun i => (i.zero, i.size, i.bytes)) = some (some (.int .u8 0), 1, 1) := by kernel_rfl
theorem inf35p : (Try.prog.info? 35).map (fun i => (i.zero, i.size, i.bytes)) = some (some (.agg #[.int .i64 0, .int .i64 0, .slice none 0 0]), 3, 40) := by kernel_rfl
theorem sz3p : (Try.prog.info? 3).map (·.size) = some 1 := by kernel_rfl
theorem sz35p : (Try.prog.info? 35).map (·.size) = some 3 := by kernel_rfl
theorem zc35p : ((Try.prog.info? 35).bind (·.zero)).map (·.cells.toList) = some [.int .i64 0, .int .i64 0, .slice none 0 0] := by kernel_rfl

theorem ok_snoc {fl : List (Int × Int × List Int)} {x : Int × Int × List Int} (h : ∀ f ∈ fl, f.2.2.length ≤ 1) (hx : x.2.2.length ≤ 1) : ∀ f ∈ fl ++ [x], f.2.2.length ≤ 1 := by
  intro f hf
  rcases List.mem_append.1 hf with hf | hf
  · exact h f hf
  · rw [List.mem_singleton.1 hf]; exact hx
theorem cnt_t {q n : Int} (h : 0 ≤ q) : ¬ (!(decide (0 ≤ q ∧ q < n) == decide (q < n))) = true := by simp [h]
theorem cnt_f {q n : Int} (h : q < 0) : ¬ (!(decide (0 ≤ q ∧ q < n) == false)) = true := by simp; omega
set_option maxRecDepth 100000
set_option maxHeartbeats 4000000
theorem take_any (S : Nat → Prop) (B : Nat) (p0 : Option Addr) (c0 : Nat) (q : Int) (fl : List (Int × Int × List Int)) (w0 : World) (hB : Blk w0 B 48 [.slice p0 (fl.map flD).length c0]) (hs : SegOk (fun b => S b ∧ b ≠ B ∧ (Value.slice p0 (fl.map flD).length c0).ownBlock ≠ some b) w0 (.slice p0 (fl.map flD).length c0) 35 3 (fl.map flD)) (hne : (Value.slice p0 (fl.map flD).length c0).ownBlock ≠ some B) (hn : fl.length ≤ 1000) :
    Calls Try.prog 10 #[.pointer (some ⟨B, 0, none⟩), .int .i64 q] w0 fun e w' => ∃ (v' : Value) (ff ft : Int) (fd : List Int) (p' : Option Addr) (c' : Nat) (fl' : List (Int × Int × List Int)), e = .returned (.tuple #[.agg #[.int .i64 ff, .int .i64 ft, .slice p' fd.length c'], .bool (decide (0 ≤ q ∧ q < (fl.length : Int)))]) ∧ PoolAt S w0 B 48 35 3 (.slice p0 (fl.map flD).length c0) (fl'.map flD) w' v' ∧ Rd (fun b => (S b ∨ w0.heap.size ≤ b) ∧ b ≠ B ∧ v'.ownBlock ≠ some b) w' (.slice p' fd.length c') (.ns .u8 fd) ∧
      fl'.length + (if 0 ≤ q ∧ q < (fl.length : Int) then 1 else 0) = fl.length ∧ (¬ (0 ≤ q ∧ q < (fl.length : Int)) → fd = []) ∧ ∀ f ∈ fl', f ∈ fl := by
  by_cases h : 0 ≤ q ∧ q < (fl.length : Int)
  · obtain ⟨k, rfl⟩ : ∃ k : Nat, q = k := ⟨q.toNat, by omega⟩
    have hk : k < fl.length := by omega
    obtain ⟨⟨ff, ft, fd⟩, hfl⟩ : ∃ e, fl[k]? = some e := ⟨_, List.getElem?_eq_getElem hk⟩
    refine (take_yes S B p0 c0 k fl ff ft fd w0 hB hs hne hn hfl).mono ?_
    rintro e w' ⟨v', p', c', rfl, h1, h2⟩
    refine ⟨v', ff, ft, fd, p', c', fl.eraseIdx k, by rw [decide_eq_true h], h1, h2, ?_, fun h' => absurd h h', fun f hf => List.mem_of_mem_eraseIdx hf⟩
    rw [if_pos h, List.length_eraseIdx_of_lt hk]; omega
  · refine (take_no S B p0 c0 q fl w0 hB hs hne hn (by omega)).mono ?_
    rintro e w' ⟨v', rfl, h1⟩
    exact ⟨v', 0, 0, [], none, 0, fl, by rw [decide_eq_false h]; rfl, h1, Rd.nilN _ _ _ _, by rw [if_neg h]; rfl, fun _ => rfl, fun f hf => hf⟩
theorem netcounts_walk (n0 : Nat) (picks : List Int) (p1 : Option Addr) (c1 : Nat) (w0 : World) (hn0 : n0 ≤ 255) (h1 : Rd (fun _ => True) w0 (.slice p1 picks.length c1) (.ns .i64 picks)) :
    Calls Try.prog 5 #[.int .u8 (n0 : Int), .slice p1 picks.length c1] w0 fun e w' => e = .returned (.bool true) ∧ Below w0.heap.size w0 w' := by
  refine enter (fn := Try.f5) Try.func5 rfl Try.ntmps5 rfl (fun a0 ha0 => ?_)
  simp only [List.zipIdx_cons, List.zipIdx_nil, List.map_cons, List.map_nil, Nat.reduceAdd, Nat.zero_add] at ha0
  have m0 := (MemOk.start (fun _ => True) w0).dat 3 rfl (h1.cast (fun _ _ => free_nil (fun _ => trivial)))
  obtain ⟨n20, hn20⟩ : ∃ m : Nat, (n0 : Int).tmod 20 = m := ⟨n0 % 20, by rw [Int.tmod_eq_emod_of_nonneg (by omega)]; omega⟩
  have hn20b : n20 ≤ 19 := by rw [Int.tmod_eq_emod_of_nonneg (by omega)] at hn20; omega
  refine wp_seq_k (fun K0 hK0 => ?_)
  refine wp_region_lit ?_
  refine st_y ha0 rfl (y_assign ha0 rfl) ?_
  clear ha0 a0; intro a1 ha1
  refine wpList_nil ?_
  refine hK0 _ _ ?_; clear hK0; try clear K0
  refine wp_seq_k (fun K1 hK1 => ?_)
  refine wp_seq_k (fun K2 hK2 => ?_)
  refine wp_region_lit ?_
  refine wpList_plain rfl (fun K hK => ?_)
  refine e_call ha1 Try.func6 rfl rfl rfl rfl (nknown_any _) ?_
  rintro e w2 ⟨rfl, hb2⟩
  have m3 := m0.later hb2
  clear m0
  clear hb2
  refine ⟨_, rfl, fun a4 ha4 => ?_⟩; clear ha1 a1
  refine hK _ _ ?_; clear hK K
  refine st_y ha4 rfl (y_not ha4 rfl) ?_
  clear ha4 a4; intro a5 ha5
  refine wpList_nil ?_
  refine hK2 _ _ ?_; clear hK2; try clear K2
  refine wp_cond_false (ha5.ev (x := .tmp 14) rfl) ?_
  refine wp_skip ?_
  refine hK1 _ _ ?_; clear hK1; try clear K1
  refine wp_seq_k (fun K3 hK3 => ?_)
  refine wp_seq_k (fun K4 hK4 => ?_)
  refine wp_region_lit ?_
  refine st_y ha5 rfl (y_move ha5 rfl) ?_
  clear ha5 a5; intro a6 ha6
  refine st_y ha6 rfl (y_len ha6 rfl Try.underlying45) ?_
  clear ha6 a6; intro a7 ha7
  refine st_y ha7 rfl (y_gtr ha7 rfl rfl) ?_
  clear ha7 a7; intro a8 ha8
  refine wpList_nil ?_
  refine hK4 _ _ ?_; clear hK4; try clear K4
  refine bool_cases ha8 (t := 17) rfl (fun hb9 ha9 => ?_) (fun hb9 ha9 => ?_)
  · skip
    clear ha8
    try simp only [decide_eq_true_eq, decide_eq_false_iff_not, Bool.not_eq_true, Bool.not_eq_false, Bool.not_eq_eq_eq_not, Bool.not_true, Bool.not_false, Bool.not_not, Int.not_lt, Int.not_le, ne_eq, Decidable.not_not] at hb9
    refine wp_cond_true (ha9.ev (x := .tmp 17) rfl) ?_
    refine wp_seq_k (fun K5 hK5 => ?_)
    refine wp_region_lit ?_
    refine st_y ha9 rfl (y_assign ha9 rfl) ?_
    clear ha9 a8; intro a10 ha10
    refine wpList_nil ?_
    refine hK5 _ _ ?_; clear hK5; try clear K5
    refine wp_ret ?_
    try dsimp only [Exit.then, Exit.inBlock]
    refine (ret1 (fn := Try.f5) ha10 rfl rfl ?_)
    exact ⟨rfl, m3.below⟩
  · skip
    clear ha8
    try simp only [decide_eq_true_eq, decide_eq_false_iff_not, Bool.not_eq_true, Bool.not_eq_false, Bool.not_eq_eq_eq_not, Bool.not_true, Bool.not_false, Bool.not_not, Int.not_lt, Int.not_le, ne_eq, Decidable.not_not] at hb9
    refine wp_cond_false (ha9.ev (x := .tmp 17) rfl) ?_
    refine wp_skip ?_
    refine hK3 _ _ ?_; clear hK3; try clear K3
    refine wp_seq_k (fun K6 hK6 => ?_)
    refine wp_region_lit ?_
    refine wpList_plain rfl (fun K hK => ?_)
    refine e_call ha9 Try.func7 rfl rfl rfl rfl (new_any _) ?_
    rintro e w11 ⟨B11, rfl, ⟨hB11, hg11⟩, hb11⟩
    have m12 := m3.newBox 1 hb11 hB11 (hg11.resolve_right (by simp [cx]))
    clear m3
    have m13 := m12.nilS 2 35 3
    clear m12
    clear hb11 hB11 hg11
    refine ⟨_, rfl, fun a14 ha14 => ?_⟩; clear ha9 a8
    refine hK _ _ ?_; clear hK K
    refine st_y ha14 rfl (y_assign ha14 rfl) ?_
    clear ha14 a14; intro a15 ha15
    refine wpList_nil ?_
    refine hK6 _ _ ?_; clear hK6; try clear K6
    refine wp_seq_k (fun K7 hK7 => ?_)
    have ha16 : Has 93 [(0, _), (1, _), (4, _), (5, _)] a15 := ha15.only [0, 1, 4, 5]; clear ha15
    refine wp_region_lit ?_
    refine st_y ha16 rfl (y_move ha16 rfl) ?_
    clear ha16 a15; intro a17 ha17
    refine st_y ha17 rfl (y_rem ha17 rfl rfl (by decide) (r := (n20 : Int)) hn20) ?_
    clear ha17 a17; intro a18 ha18
    refine st_y ha18 rfl (y_conv ha18 rfl Try.underlying5 Try.underlying3 (IntWalk.i64_in _ (by omega))) ?_
    clear ha18 a18; intro a19 ha19
    refine st_y ha19 rfl (y_assign ha19 rfl) ?_
    clear ha19 a19; intro a20 ha20
    refine wpList_nil ?_
    refine hK7 _ _ ?_; clear hK7; try clear K7
    refine wp_seq_k (fun K8 hK8 => ?_)
    refine wp_seq_k (fun K9 hK9 => ?_)
    refine wp_region_lit ?_
    refine st_y ha20 rfl (y_assign ha20 rfl) ?_
    clear ha20 a20; intro a21 ha21
    refine wpList_nil ?_
    refine hK9 _ _ ?_; clear hK9; try clear K9
    refine wp_block ?_
    refine wp_loop_ghost (fun g a w => ∃ (i : Nat) (fl : List (Int × Int × List Int)) (B : Nat) (pp : Option Addr) (cc : Nat), i ≤ n20 ∧ g = n20 - i ∧ fl.length = i ∧ (∀ f ∈ fl, f.2.2.length ≤ 1) ∧ Has 93 [(1, .slice p1 picks.length c1), (5, .pointer (some ⟨B, 0, none⟩)), (6, .int .i64 n20), (7, .int .i64 i)] a ∧ MemOk (cx (fun _ => True) w0) w0 [(1, .box B 48 [.slice pp (fl.map flD).length cc]), (2, .seg (.slice pp (fl.map flD).length cc) 35 3 (fl.map flD)), (3, .dat (.slice p1 picks.length c1) (.ns .i64 picks))] w) (n20) ?_ ?_
    · exact ⟨0, [], _, none, 0, Nat.zero_le _, rfl, rfl, by simp, ha21.only [1, 5, 6, 7], m13.only [1, 2, 3]⟩
    · skip
      clear ha21 m13
      rintro g a22 w22 ⟨i, fl, B, pp, cc, hil, hg, hfi, hfo, ha22, m22⟩
      refine wp_seq_k (fun K10 hK10 => ?_)
      refine wp_seq_k (fun K11 hK11 => ?_)
      refine wp_region_lit ?_
      refine st_y ha22 rfl (y_move ha22 rfl) ?_
      clear ha22 a22; intro a23 ha23
      refine st_y ha23 rfl (y_move ha23 rfl) ?_
      clear ha23 a23; intro a24 ha24
      refine st_y ha24 rfl (y_lss ha24 rfl rfl) ?_
      clear ha24 a24; intro a25 ha25
      refine wpList_nil ?_
      refine hK11 _ _ ?_; clear hK11; try clear K11
      refine bool_cases ha25 (t := 24) rfl (fun hb26 ha26 => ?_) (fun hb26 ha26 => ?_)
      · skip
        clear ha25
        try simp only [decide_eq_true_eq, decide_eq_false_iff_not, Bool.not_eq_true, Bool.not_eq_false, Bool.not_eq_eq_eq_not, Bool.not_true, Bool.not_false, Bool.not_not, Int.not_lt, Int.not_le, ne_eq, Decidable.not_not] at hb26
        obtain ⟨r29, hr29⟩ : ∃ r, (i : Int).tmod 7 = r := ⟨_, rfl⟩
        obtain ⟨r31, hr31⟩ : ∃ r, IntKind.u8.wrap (i : Int) = r := ⟨_, rfl⟩
        refine wp_cond_true (ha26.ev (x := .tmp 24) rfl) ?_
        refine wp_skip ?_
        refine hK10 _ _ ?_; clear hK10; try clear K10
        refine wp_seq_k (fun K12 hK12 => ?_)
        refine wp_block ?_
        refine wp_region_lit ?_
        refine st_y ha26 rfl (y_move ha26 rfl) ?_
        clear ha26 a25; intro a27 ha27
        refine st_y ha27 rfl (y_move ha27 rfl) ?_
        clear ha27 a27; intro a28 ha28
        refine st_y ha28 rfl (y_rem ha28 rfl rfl (by decide) (r := r29) hr29) ?_
        clear ha28 a28; intro a29 ha29
        refine st_y ha29 rfl (y_move ha29 rfl) ?_
        clear ha29 a29; intro a30 ha30
        refine st_y ha30 rfl (y_conv ha30 rfl Try.underlying3 Try.underlying5 (r := r31) hr31) ?_
        clear ha30 a30; intro a31 ha31
        refine wpList_plain rfl (fun K hK => ?_)
        refine e_litN ha31 m22 100 (k := .u8) rfl rfl Try.underlying33 inf5p rfl rfl rfl rfl ?_
        clear ha31 a31 m22; intro g32 a33 w33 ha33 m33 
        refine hK _ _ ?_; clear hK K
        refine st_y ha33 rfl (y_build ha33 rfl zc35p fl35p rfl (by dsimp only [setL, List.set] <;> rfl)) ?_
        clear ha33 a33; intro a34 ha34
        have m36 := m33.freezeN 100 rfl; clear m33
        refine wpList_plain rfl (fun K hK => ?_)
        refine e_litR ha34 m36 101 (mm := 3) rfl (.cons rfl rfl (.cons (.v _) (.cons (.v _) (.cons (m36.rd (i := 100) rfl) .nil))) <| .nil) Try.underlying27 inf35p rfl rfl rfl rfl rfl ?_
        clear ha34 a34 m36; intro g35 a37 w37 ha37 m37 
        refine hK _ _ ?_; clear hK K
        have m38 := m37.freezeR 101 rfl; clear m37
        refine wpList_plain rfl (fun K hK => ?_)
        refine e_call ha37 Try.func8 rfl rfl rfl rfl (send_any _ _ _ _ [(r29, (0 : Int), [r31])] _ _ _ (m38.ok 1 _ rfl : Res.ok _ _ _ _ (.box _ _ _)).1 (m38.segP (i := 1) (j := 2) rfl rfl) (m38.neP (i := 1) (j := 2) (by decide) rfl rfl) ((m38.rd (i := 101) rfl).cast (fun b hF => ⟨hF, fun h => hF.2 ⟨1, _, rfl, by rw [h]; rfl⟩, fun h => hF.2 ⟨2, _, rfl, h⟩⟩)) (by simp; omega) (by simp)) ?_
        rintro e w39 ⟨rfl, v39, hp39⟩
        have m40 := m38.callP 1 2 (by decide) rfl rfl hp39
        clear m38
        obtain ⟨p39, c39, hv39⟩ := hp39.2.1.shape
        subst hv39
        clear hp39
        refine ⟨_, rfl, fun a41 ha41 => ?_⟩; clear ha37 a37
        refine hK _ _ ?_; clear hK K
        rw [← List.map_append] at m40
        refine wpList_nil ?_
        refine hK12 _ _ ?_; clear hK12; try clear K12
        have ha42 : Has 93 [(1, _), (5, _), (6, _), (7, _)] a41 := ha41.only [1, 5, 6, 7]; clear ha41
        refine wp_region_lit ?_
        refine st_y ha42 rfl (y_move ha42 rfl) ?_
        clear ha42 a41; intro a43 ha43
        refine st_y ha43 rfl (y_add ha43 rfl rfl (r := ((i + 1 : Nat) : Int)) (by rw [IntWalk.i64_in _ (by omega)]; omega)) ?_
        clear ha43 a43; intro a44 ha44
        refine st_y ha44 rfl (y_assign ha44 rfl) ?_
        clear ha44 a44; intro a45 ha45
        refine wpList_nil ?_
        show ∃ n', n' < _ ∧ _
        exact ⟨n20 - (i + 1), by omega, i + 1, _, _, _, _, by omega, rfl, by simp; omega, ok_snoc hfo (by simp), ha45.only [1, 5, 6, 7], m40.only [1, 2, 3]⟩
      · skip
        clear ha25
        try simp only [decide_eq_true_eq, decide_eq_false_iff_not, Bool.not_eq_true, Bool.not_eq_false, Bool.not_eq_eq_eq_not, Bool.not_true, Bool.not_false, Bool.not_not, Int.not_lt, Int.not_le, ne_eq, Decidable.not_not] at hb26
        obtain rfl : i = n20 := by omega
        refine wp_cond_false (ha26.ev (x := .tmp 24) rfl) ?_
        refine wp_exit ?_
        refine hK8 _ _ ?_; clear hK8; try clear K8
        refine wp_seq_k (fun K13 hK13 => ?_)
        refine wp_region_lit ?_
        refine st_y ha26 rfl (y_move ha26 rfl) ?_
        clear ha26 a25; intro a46 ha46
        refine wpList_plain rfl (fun K hK => ?_)
        refine e_call ha46 Try.func8 rfl rfl rfl rfl (send_any _ _ _ _ [] _ _ _ (m22.ok 1 _ rfl : Res.ok _ _ _ _ (.box _ _ _)).1 (m22.segP (i := 1) (j := 2) rfl rfl) (m22.neP (i := 1) (j := 2) (by decide) rfl rfl) (Rd.l0 _ _ _) (by simp; omega) (by simp)) ?_
        rintro e w47 ⟨rfl, v47, hp47⟩
        have m48 := m22.callP 1 2 (by decide) rfl rfl hp47
        clear m22
        obtain ⟨p47, c47, hv47⟩ := hp47.2.1.shape
        subst hv47
        clear hp47
        refine ⟨_, rfl, fun a49 ha49 => ?_⟩; clear ha46 a46
        refine hK _ _ ?_; clear hK K
        rw [← List.map_append] at m48
        rw [List.append_nil] at m48
        refine wpList_nil ?_
        refine hK13 _ _ ?_; clear hK13; try clear K13
        refine wp_seq_k (fun K14 hK14 => ?_)
        refine wp_region_lit ?_
        refine st_y ha49 rfl (y_move ha49 rfl) ?_
        clear ha49 a49; intro a50 ha50
        refine st_y ha50 rfl (y_assign ha50 rfl) ?_
        clear ha50 a50; intro a51 ha51
        refine wpList_nil ?_
        refine hK14 _ _ ?_; clear hK14; try clear K14
        refine wp_seq_k (fun K15 hK15 => ?_)
        refine wp_seq_k (fun K16 hK16 => ?_)
        have ha52 : Has 93 [(1, _), (5, _), (6, _), (7, _), (8, _)] a51 := ha51.only [1, 5, 6, 7, 8]; clear ha51
        refine wp_region_lit ?_
        refine st_y ha52 rfl (y_assign ha52 rfl) ?_
        clear ha52 a51; intro a53 ha53
        refine wpList_nil ?_
        refine hK16 _ _ ?_; clear hK16; try clear K16
        refine wp_block ?_
        rw [← hfi] at ha53
        refine wp_loop_ghost (fun g a w => ∃ (k : Nat) (fl : List (Int × Int × List Int)) (B : Nat) (pp p1 : Option Addr) (cc c1 : Nat), k ≤ picks.length ∧ g = picks.length - k ∧ fl.length ≤ 20 ∧ (∀ f ∈ fl, f.2.2.length ≤ 1) ∧ Has 93 [(1, .slice p1 picks.length c1), (5, .pointer (some ⟨B, 0, none⟩)), (8, .int .i64 fl.length), (9, .int .i64 k)] a ∧ MemOk (cx (fun _ => True) w0) w0 [(1, .box B 48 [.slice pp (fl.map flD).length cc]), (2, .seg (.slice pp (fl.map flD).length cc) 35 3 (fl.map flD)), (3, .dat (.slice p1 picks.length c1) (.ns .i64 picks))] w) (picks.length) ?_ ?_
        · exact ⟨0, fl, _, _, _, _, _, Nat.zero_le _, rfl, by omega, hfo, ha53.only [1, 5, 8, 9], m48.only [1, 2, 3]⟩
        · skip
          clear ha53 m48
          rintro g a54 w54 ⟨k, fl, B, pp, p1, cc, c1, hkl, hg, hfn, hfo, ha54, m54⟩
          refine wp_seq_k (fun K17 hK17 => ?_)
          refine wp_seq_k (fun K18 hK18 => ?_)
          refine wp_region_lit ?_
          refine st_y ha54 rfl (y_move ha54 rfl) ?_
          clear ha54 a54; intro a55 ha55
          refine st_y ha55 rfl (y_move ha55 rfl) ?_
          clear ha55 a55; intro a56 ha56
          refine st_y ha56 rfl (y_len ha56 rfl Try.underlying45) ?_
          clear ha56 a56; intro a57 ha57
          refine st_y ha57 rfl (y_lss ha57 rfl rfl) ?_
          clear ha57 a57; intro a58 ha58
          refine wpList_nil ?_
          refine hK18 _ _ ?_; clear hK18; try clear K18
          refine bool_cases ha58 (t := 42) rfl (fun hb59 ha59 => ?_) (fun hb59 ha59 => ?_)
          · skip
            clear ha58
            try simp only [decide_eq_true_eq, decide_eq_false_iff_not, Bool.not_eq_true, Bool.not_eq_false, Bool.not_eq_eq_eq_not, Bool.not_true, Bool.not_false, Bool.not_not, Int.not_lt, Int.not_le, ne_eq, Decidable.not_not] at hb59
            have hk : k < picks.length := by omega
            obtain ⟨rat, hrat⟩ : ∃ r, IntKind.i64.wrap ((BitVec.ofInt IntKind.i64.bits (picks.getD k 0) &&& BitVec.ofInt IntKind.i64.bits 15).toNat : Int) = r := ⟨_, rfl⟩
            refine wp_cond_true (ha59.ev (x := .tmp 42) rfl) ?_
            refine wp_skip ?_
            refine hK17 _ _ ?_; clear hK17; try clear K17
            refine wp_seq_k (fun K19 hK19 => ?_)
            refine wp_block ?_
            refine wp_seq_k (fun K20 hK20 => ?_)
            refine wp_region_lit ?_
            refine st_y ha59 rfl (y_move ha59 rfl) ?_
            clear ha59 a58; intro a60 ha60
            refine st_y ha60 rfl (y_move ha60 rfl) ?_
            clear ha60 a60; intro a61 ha61
            obtain ⟨b62, o62, hp62, m62⟩ := m54.openN (i := 3) rfl (k) hk 200 rfl
            cases hp62; clear m54
            refine st_y ha61 rfl (y_idx ha61 rfl rfl Try.underlying45 sz3p (k) rfl hk) ?_
            clear ha61 a61; intro a63 ha63
            refine st_y ha63 rfl (y_loadC0 ha63 m62 (i := 200) rfl rfl Try.underlying3 rfl) ?_
            clear ha63 a63; intro a64 ha64
            refine st_y ha64 rfl (y_assign ha64 rfl) ?_
            clear ha64 a64; intro a65 ha65
            refine wpList_nil ?_
            refine hK20 _ _ ?_; clear hK20; try clear K20
            refine wp_seq_k (fun K21 hK21 => ?_)
            refine wp_seq_k (fun K22 hK22 => ?_)
            have ha66 : Has 93 [(1, _), (5, _), (8, _), (9, _), (10, _)] a65 := ha65.only [1, 5, 8, 9, 10]; clear ha65
            refine wp_region_lit ?_
            refine st_y ha66 rfl (y_move ha66 rfl) ?_
            clear ha66 a65; intro a67 ha67
            refine st_y ha67 rfl (y_rem ha67 rfl rfl (by decide) rfl) ?_
            clear ha67 a67; intro a68 ha68
            refine st_y ha68 rfl (y_eql ha68 rfl rfl) ?_
            clear ha68 a68; intro a69 ha69
            refine wpList_nil ?_
            refine hK22 _ _ ?_; clear hK22; try clear K22
            refine bool_cases ha69 (t := 51) rfl (fun hb70 ha70 => ?_) (fun hb70 ha70 => ?_)
            · skip
              clear ha69
              try simp only [decide_eq_true_eq, decide_eq_false_iff_not, Bool.not_eq_true, Bool.not_eq_false, Bool.not_eq_eq_eq_not, Bool.not_true, Bool.not_false, Bool.not_not, Int.not_lt, Int.not_le, ne_eq, Decidable.not_not] at hb70
              refine wp_cond_true (ha70.ev (x := .tmp 51) rfl) ?_
              refine wp_region_lit ?_
              refine st_y ha70 rfl (y_move ha70 rfl) ?_
              clear ha70 a69; intro a71 ha71
              refine st_y ha71 rfl (y_and ha71 rfl rfl (r := rat) hrat) ?_
              clear ha71 a71; intro a72 ha72
              refine st_y ha72 rfl (y_assign ha72 rfl) ?_
              clear ha72 a72; intro a73 ha73
              refine wpList_nil ?_
              refine hK21 _ _ ?_; clear hK21; try clear K21
              refine wp_seq_k (fun K23 hK23 => ?_)
              refine wp_region_lit ?_
              refine st_y ha73 rfl (y_move ha73 rfl) ?_
              clear ha73 a73; intro a74 ha74
              refine st_y ha74 rfl (y_move ha74 rfl) ?_
              clear ha74 a74; intro a75 ha75
              refine wpList_plain rfl (fun K hK => ?_)
              refine e_call ha75 Try.func10 rfl rfl rfl rfl (take_any _ _ _ _ (rat) fl _ (m62.ok 1 _ rfl : Res.ok _ _ _ _ (.box _ _ _)).1 (m62.segP (i := 1) (j := 2) rfl rfl) (m62.neP (i := 1) (j := 2) (by decide) rfl rfl) (by omega)) ?_
              rintro e w76 ⟨v76, tf76, tt76, fd, pp76, cc76, fl2, rfl, hp76, hd76, hcnt, hemp, hsub⟩
              have hd76 := hd76.cast (fun b h => m62.freeC (i := 1) (j := 2) (pt := 48) (e := 35) (mm := 3) (rows' := (fl2.map flD)) h)
              have m77 := m62.callP 1 2 (by decide) rfl rfl hp76
              clear m62
              have m78 := m77.dat 201 rfl hd76
              clear m77
              obtain ⟨p76, c76, hv76⟩ := hp76.2.1.shape
              subst hv76
              clear hp76 hd76
              have hfo2 : ∀ f ∈ fl2, f.2.2.length ≤ 1 := fun f hf => hfo f (hsub f hf)
              have hfl2 : fl2.length ≤ fl.length := by split at hcnt <;> omega
              refine ⟨_, rfl, fun a79 ha79 => ?_⟩; clear ha75 a75
              refine hK _ _ ?_; clear hK K
              refine st_y ha79 rfl (y_move ha79 rfl) ?_
              clear ha79 a79; intro a80 ha80
              refine st_y ha80 rfl (y_extract ha80 rfl rfl) ?_
              clear ha80 a80; intro a81 ha81
              refine st_y ha81 rfl (y_extract ha81 rfl rfl) ?_
              clear ha81 a81; intro a82 ha82
              refine wpList_plain rfl (fun K hK => ?_)
              refine e_alloc ha82 m78 202 zc35p rfl ?_
              clear ha82 a82 m78; intro g83 a84 w84 ha84 m84 hB84 hg84
              clear hB84 hg84
              refine hK _ _ ?_; clear hK K
              refine wpList_plain rfl (fun K hK => ?_)
              refine e_storeW ha84 m84 202 rfl rfl rfl rfl rfl sz35p ?_
              clear m84; intro w85 m85 hB85
              clear hB85
              refine hK _ _ ?_; clear hK K
              refine st_y ha84 rfl (y_assign ha84 rfl) ?_
              clear ha84 a84; intro a86 ha86
              refine wpList_nil ?_
              refine hK23 _ _ ?_; clear hK23; try clear K23
              refine wp_seq_k (fun K24 hK24 => ?_)
              refine wp_seq_k (fun K25 hK25 => ?_)
              have ha87 : Has 93 [(1, _), (5, _), (8, _), (9, _), (10, _), (51, _), (11, _), (12, _)] a86 := ha86.only [1, 5, 8, 9, 10, 51, 11, 12]; clear ha86
              refine wp_region_lit ?_
              refine st_y ha87 rfl (y_move ha87 rfl) ?_
              clear ha87 a86; intro a88 ha88
              refine st_y ha88 rfl (y_move ha88 rfl) ?_
              clear ha88 a88; intro a89 ha89
              refine st_y ha89 rfl (y_geq ha89 rfl rfl) ?_
              clear ha89 a89; intro a90 ha90
              refine st_y ha90 rfl (y_move ha90 rfl) ?_
              clear ha90 a90; intro a91 ha91
              refine bool_cases ha91 (t := 63) rfl (fun hb92 ha92 => ?_) (fun hb92 ha92 => ?_)
              · skip
                clear ha91
                try simp only [decide_eq_true_eq, decide_eq_false_iff_not, Bool.not_eq_true, Bool.not_eq_false, Bool.not_eq_eq_eq_not, Bool.not_true, Bool.not_false, Bool.not_not, Int.not_lt, Int.not_le, ne_eq, Decidable.not_not] at hb92
                refine st_g ha92 rfl rfl rfl rfl (y_move ha92 rfl) ?_
                clear ha92 a91; intro a93 ha93
                refine st_g ha93 rfl rfl rfl rfl (y_move ha93 rfl) ?_
                clear ha93 a93; intro a94 ha94
                refine st_g ha94 rfl rfl rfl rfl (y_lss ha94 rfl rfl) ?_
                clear ha94 a94; intro a95 ha95
                refine st_y ha95 rfl (y_pickT ha95 rfl rfl) ?_
                clear ha95 a95; intro a96 ha96
                refine st_y ha96 rfl (y_neqB ha96 rfl rfl Try.underlying4) ?_
                clear ha96 a96; intro a97 ha97
                refine st_y ha97 rfl (y_move ha97 rfl) ?_
                clear ha97 a97; intro a98 ha98
                refine bool_cases ha98 (t := 69) rfl (fun hb99 ha99 => ?_) (fun hb99 ha99 => ?_)
                · exact absurd hb99 (cnt_t hb92)
                clear ha98 hb99
                refine st_g ha99 rfl rfl rfl rfl (y_move ha99 rfl) ?_
                clear ha99 a98; intro a100 ha100
                refine st_g ha100 rfl rfl rfl rfl (y_not ha100 rfl) ?_
                clear ha100 a100; intro a101 ha101
                refine st_g ha101 rfl rfl rfl rfl (y_move ha101 rfl) ?_
                clear ha101 a101; intro a102 ha102
                refine bool_cases ha102 (t := 72) rfl (fun hb103 ha103 => ?_) (fun hb103 ha103 => ?_)
                · skip
                  clear ha102
                  try simp only [decide_eq_true_eq, decide_eq_false_iff_not, Bool.not_eq_true, Bool.not_eq_false, Bool.not_eq_eq_eq_not, Bool.not_true, Bool.not_false, Bool.not_not, Int.not_lt, Int.not_le, ne_eq, Decidable.not_not] at hb103
                  have hf0 := hemp (by first | exact hb103 | (simp at hb103; omega))
                  refine st_g ha103 rfl rfl rfl rfl (y_fieldAddr ha103 (off := 2) rfl Try.underlying35 rfl (s := 0) (by kernel_rfl) rfl) ?_
                  clear ha103 a102; intro a104 ha104
                  refine st_g ha104 rfl rfl rfl rfl (y_loadB1 ha104 m85 (i := 202) rfl rfl rfl Try.underlying33 rfl) ?_
                  clear ha104 a104; intro a105 ha105
                  refine st_g ha105 rfl rfl rfl rfl (y_len ha105 rfl Try.underlying33) ?_
                  clear ha105 a105; intro a106 ha106
                  refine st_g ha106 rfl rfl rfl rfl (y_neq ha106 rfl rfl) ?_
                  clear ha106 a106; intro a107 ha107
                  refine st_g ha107 rfl rfl rfl rfl (y_pickT ha107 rfl rfl) ?_
                  clear ha107 a107; intro a108 ha108
                  refine st_y ha108 rfl (y_pickF ha108 rfl rfl) ?_
                  clear ha108 a108; intro a109 ha109
                  refine wpList_nil ?_
                  refine hK25 _ _ ?_; clear hK25; try clear K25
                  refine bool_cases ha109 (t := 78) rfl (fun hb110 ha110 => ?_) (fun hb110 ha110 => ?_)
                  · exact absurd hb110 (by simp [hf0])
                  clear ha109 hb110
                  refine wp_cond_false (ha110.ev (x := .tmp 78) rfl) ?_
                  refine wp_skip ?_
                  refine hK24 _ _ ?_; clear hK24; try clear K24
                  refine wp_seq_k (fun K26 hK26 => ?_)
                  refine wp_seq_k (fun K27 hK27 => ?_)
                  have ha111 : Has 93 [(1, _), (5, _), (8, _), (9, _), (51, _), (12, _)] a109 := ha110.only [1, 5, 8, 9, 51, 12]; clear ha110
                  refine wp_region_lit ?_
                  refine st_y ha111 rfl (y_move ha111 rfl) ?_
                  clear ha111 a109; intro a112 ha112
                  refine wpList_nil ?_
                  refine hK27 _ _ ?_; clear hK27; try clear K27
                  refine bool_cases ha112 (t := 79) rfl (fun hb113 ha113 => ?_) (fun hb113 ha113 => ?_)
                  · skip
                    clear ha112
                    try simp only [decide_eq_true_eq, decide_eq_false_iff_not, Bool.not_eq_true, Bool.not_eq_false, Bool.not_eq_eq_eq_not, Bool.not_true, Bool.not_false, Bool.not_not, Int.not_lt, Int.not_le, ne_eq, Decidable.not_not] at hb113
                    refine wp_cond_true (ha113.ev (x := .tmp 79) rfl) ?_
                    refine wp_region_lit ?_
                    refine st_y ha113 rfl (y_move ha113 rfl) ?_
                    clear ha113 a112; intro a114 ha114
                    refine st_y ha114 rfl (y_sub ha114 rfl rfl (r := (fl.length : Int) - 1) (IntWalk.i64_in _ (by omega))) ?_
                    clear ha114 a114; intro a115 ha115
                    refine st_y ha115 rfl (y_assign ha115 rfl) ?_
                    clear ha115 a115; intro a116 ha116
                    refine wpList_nil ?_
                    refine hK26 _ _ ?_; clear hK26; try clear K26
                    refine wp_seq_k (fun K28 hK28 => ?_)
                    refine wp_region_lit ?_
                    refine st_y ha116 rfl (y_move ha116 rfl) ?_
                    clear ha116 a116; intro a117 ha117
                    refine wpList_plain rfl (fun K hK => ?_)
                    refine e_call ha117 Try.func15 rfl rfl rfl rfl (len_any _ _ _ _ _ (m85.ok 1 _ rfl : Res.ok _ _ _ _ (.box _ _ _)).1) ?_
                    rintro e w118 ⟨rfl, hb118⟩
                    have m119 := m85.later hb118
                    clear m85
                    clear hb118
                    refine ⟨_, rfl, fun a120 ha120 => ?_⟩; clear ha117 a117
                    refine hK _ _ ?_; clear hK K
                    refine st_y ha120 rfl (y_move ha120 rfl) ?_
                    clear ha120 a120; intro a121 ha121
                    refine st_y ha121 rfl (y_neq ha121 rfl rfl) ?_
                    clear ha121 a121; intro a122 ha122
                    refine st_y ha122 rfl (y_move ha122 rfl) ?_
                    clear ha122 a122; intro a123 ha123
                    refine bool_cases ha123 (t := 86) rfl (fun hb124 ha124 => ?_) (fun hb124 ha124 => ?_)
                    · exact absurd hb124 (by simp; first | (rw [if_pos (by omega)] at hcnt; omega) | (rw [if_neg (by omega)] at hcnt; omega))
                    clear ha123 hb124
                    refine st_g ha124 rfl rfl rfl rfl (y_move ha124 rfl) ?_
                    clear ha124 a123; intro a125 ha125
                    refine st_ge ha125 rfl rfl rfl rfl (fun K hK => ?_)
                    refine e_call ha125 Try.func16 rfl rfl rfl rfl (all_any _ _ _ (fl2) _ (m119.ok 1 _ rfl : Res.ok _ _ _ _ (.box _ _ _)).1 (m119.segP (i := 1) (j := 2) rfl rfl) (m119.neP (i := 1) (j := 2) (by decide) rfl rfl) (by omega) (fun f hf => Nat.le_trans (hfo2 f hf) (by decide))) ?_
                    rintro e w126 ⟨v126, pp126, cc126, rfl, hp126, hd126⟩
                    have hd126 := hd126.cast (fun b h => m119.freeC (i := 1) (j := 2) (pt := 48) (e := 35) (mm := 3) (rows' := ((fl2).map flD)) h)
                    have m127 := m119.callP 1 2 (by decide) rfl rfl hp126
                    clear m119
                    have m128 := m127.dat 203 rfl hd126
                    clear m127
                    obtain ⟨p126, c126, hv126⟩ := hp126.2.1.shape
                    subst hv126
                    clear hp126 hd126
                    refine ⟨_, rfl, fun a129 ha129 => ?_⟩; clear ha125 a125
                    refine hK _ _ ?_; clear hK K
                    refine st_g ha129 rfl rfl rfl rfl (y_len ha129 rfl Try.underlying27) ?_
                    clear ha129 a129; intro a130 ha130
                    refine st_g ha130 rfl rfl rfl rfl (y_move ha130 rfl) ?_
                    clear ha130 a130; intro a131 ha131
                    refine st_g ha131 rfl rfl rfl rfl (y_neq ha131 rfl rfl) ?_
                    clear ha131 a131; intro a132 ha132
                    refine st_y ha132 rfl (y_pickF ha132 rfl rfl) ?_
                    clear ha132 a132; intro a133 ha133
                    refine wpList_nil ?_
                    refine hK28 _ _ ?_; clear hK28; try clear K28
                    refine bool_cases ha133 (t := 92) rfl (fun hb134 ha134 => ?_) (fun hb134 ha134 => ?_)
                    · exact absurd hb134 (by simp; first | (rw [if_pos (by omega)] at hcnt; omega) | (rw [if_neg (by omega)] at hcnt; omega))
                    clear ha133 hb134
                    refine wp_cond_false (ha134.ev (x := .tmp 92) rfl) ?_
                    refine wp_skip ?_
                    refine hK19 _ _ ?_; clear hK19; try clear K19
                    have ha135 : Has 93 [(1, _), (5, _), (8, _), (9, _), (51, _), (79, _)] a133 := ha134.only [1, 5, 8, 9, 51, 79]; clear ha134
                    refine wp_region_lit ?_
                    refine st_y ha135 rfl (y_move ha135 rfl) ?_
                    clear ha135 a133; intro a136 ha136
                    refine st_y ha136 rfl (y_add ha136 rfl rfl (r := ((k + 1 : Nat) : Int)) (by rw [IntWalk.i64_in _ (by omega)]; omega)) ?_
                    clear ha136 a136; intro a137 ha137
                    refine st_y ha137 rfl (y_assign ha137 rfl) ?_
                    clear ha137 a137; intro a138 ha138
                    refine wpList_nil ?_
                    show ∃ n', n' < _ ∧ _
                    have hlen : (fl2.length : Int) = (fl.length : Int) - 1 := by first | (rw [if_pos (by omega)] at hcnt; omega) | (rw [if_neg (by omega)] at hcnt; omega)
                    rw [← hlen] at ha138
                    exact ⟨picks.length - (k + 1), by omega, k + 1, fl2, _, _, _, _, _, by omega, rfl, by omega, hfo2, ha138.only [1, 5, 8, 9], m128.only [1, 2, 3]⟩
                  · skip
                    clear ha112
                    try simp only [decide_eq_true_eq, decide_eq_false_iff_not, Bool.not_eq_true, Bool.not_eq_false, Bool.not_eq_eq_eq_not, Bool.not_true, Bool.not_false, Bool.not_not, Int.not_lt, Int.not_le, ne_eq, Decidable.not_not] at hb113
                    refine wp_cond_false (ha113.ev (x := .tmp 79) rfl) ?_
                    refine wp_skip ?_
                    refine hK26 _ _ ?_; clear hK26; try clear K26
                    refine wp_seq_k (fun K29 hK29 => ?_)
                    refine wp_region_lit ?_
                    refine st_y ha113 rfl (y_move ha113 rfl) ?_
                    clear ha113 a112; intro a139 ha139
                    refine wpList_plain rfl (fun K hK => ?_)
                    refine e_call ha139 Try.func15 rfl rfl rfl rfl (len_any _ _ _ _ _ (m85.ok 1 _ rfl : Res.ok _ _ _ _ (.box _ _ _)).1) ?_
                    rintro e w140 ⟨rfl, hb140⟩
                    have m141 := m85.later hb140
                    clear m85
                    clear hb140
                    refine ⟨_, rfl, fun a142 ha142 => ?_⟩; clear ha139 a139
                    refine hK _ _ ?_; clear hK K
                    refine st_y ha142 rfl (y_move ha142 rfl) ?_
                    clear ha142 a142; intro a143 ha143
                    refine st_y ha143 rfl (y_neq ha143 rfl rfl) ?_
                    clear ha143 a143; intro a144 ha144
                    refine st_y ha144 rfl (y_move ha144 rfl) ?_
                    clear ha144 a144; intro a145 ha145
                    refine bool_cases ha145 (t := 86) rfl (fun hb146 ha146 => ?_) (fun hb146 ha146 => ?_)
                    · exact absurd hb146 (by simp; first | (rw [if_pos (by omega)] at hcnt; omega) | (rw [if_neg (by omega)] at hcnt; omega))
                    clear ha145 hb146
                    refine st_g ha146 rfl rfl rfl rfl (y_move ha146 rfl) ?_
                    clear ha146 a145; intro a147 ha147
                    refine st_ge ha147 rfl rfl rfl rfl (fun K hK => ?_)
                    refine e_call ha147 Try.func16 rfl rfl rfl rfl (all_any _ _ _ (fl2) _ (m141.ok 1 _ rfl : Res.ok _ _ _ _ (.box _ _ _)).1 (m141.segP (i := 1) (j := 2) rfl rfl) (m141.neP (i := 1) (j := 2) (by decide) rfl rfl) (by omega) (fun f hf => Nat.le_trans (hfo2 f hf) (by decide))) ?_
                    rintro e w148 ⟨v148, pp148, cc148, rfl, hp148, hd148⟩
                    have hd148 := hd148.cast (fun b h => m141.freeC (i := 1) (j := 2) (pt := 48) (e := 35) (mm := 3) (rows' := ((fl2).map flD)) h)
                    have m149 := m141.callP 1 2 (by decide) rfl rfl hp148
                    clear m141
                    have m150 := m149.dat 203 rfl hd148
                    clear m149
                    obtain ⟨p148, c148, hv148⟩ := hp148.2.1.shape
                    subst hv148
                    clear hp148 hd148
                    refine ⟨_, rfl, fun a151 ha151 => ?_⟩; clear ha147 a147
                    refine hK _ _ ?_; clear hK K
                    refine st_g ha151 rfl rfl rfl rfl (y_len ha151 rfl Try.underlying27) ?_
                    clear ha151 a151; intro a152 ha152
                    refine st_g ha152 rfl rfl rfl rfl (y_move ha152 rfl) ?_
                    clear ha152 a152; intro a153 ha153
                    refine st_g ha153 rfl rfl rfl rfl (y_neq ha153 rfl rfl) ?_
                    clear ha153 a153; intro a154 ha154
                    refine st_y ha154 rfl (y_pickF ha154 rfl rfl) ?_
                    clear ha154 a154; intro a155 ha155
                    refine wpList_nil ?_
                    refine hK29 _ _ ?_; clear hK29; try clear K29
                    refine bool_cases ha155 (t := 92) rfl (fun hb156 ha156 => ?_) (fun hb156 ha156 => ?_)
                    · exact absurd hb156 (by simp; first | (rw [if_pos (by omega)] at hcnt; omega) | (rw [if_neg (by omega)] at hcnt; omega))
                    clear ha155 hb156
                    refine wp_cond_false (ha156.ev (x := .tmp 92) rfl) ?_
                    refine wp_skip ?_
                    refine hK19 _ _ ?_; clear hK19; try clear K19
                    have ha157 : Has 93 [(1, _), (5, _), (8, _), (9, _), (51, _), (79, _)] a155 := ha156.only [1, 5, 8, 9, 51, 79]; clear ha156
                    refine wp_region_lit ?_
                    refine st_y ha157 rfl (y_move ha157 rfl) ?_
                    clear ha157 a155; intro a158 ha158
                    refine st_y ha158 rfl (y_add ha158 rfl rfl (r := ((k + 1 : Nat) : Int)) (by rw [IntWalk.i64_in _ (by omega)]; omega)) ?_
                    clear ha158 a158; intro a159 ha159
                    refine st_y ha159 rfl (y_assign ha159 rfl) ?_
                    clear ha159 a159; intro a160 ha160
                    refine wpList_nil ?_
                    show ∃ n', n' < _ ∧ _
                    have hlen : (fl2.length : Int) = (fl.length : Int) := by first | (rw [if_pos (by omega)] at hcnt; omega) | (rw [if_neg (by omega)] at hcnt; omega)
                    rw [← hlen] at ha160
                    exact ⟨picks.length - (k + 1), by omega, k + 1, fl2, _, _, _, _, _, by omega, rfl, by omega, hfo2, ha160.only [1, 5, 8, 9], m150.only [1, 2, 3]⟩
                · skip
                  clear ha102
                  try simp only [decide_eq_true_eq, decide_eq_false_iff_not, Bool.not_eq_true, Bool.not_eq_false, Bool.not_eq_eq_eq_not, Bool.not_true, Bool.not_false, Bool.not_not, Int.not_lt, Int.not_le, ne_eq, Decidable.not_not] at hb103
                  refine st_skip ha103 rfl rfl rfl rfl ?_
                  clear ha103 a102; intro a161 ha161
                  refine st_skip ha161 rfl rfl rfl rfl ?_
                  clear ha161 a161; intro a162 ha162
                  refine st_skip ha162 rfl rfl rfl rfl ?_
                  clear ha162 a162; intro a163 ha163
                  refine st_skip ha163 rfl rfl rfl rfl ?_
                  clear ha163 a163; intro a164 ha164
                  refine st_g ha164 rfl rfl rfl rfl (y_pickF ha164 rfl rfl) ?_
                  clear ha164 a164; intro a165 ha165
                  refine st_y ha165 rfl (y_pickF ha165 rfl rfl) ?_
                  clear ha165 a165; intro a166 ha166
                  refine wpList_nil ?_
                  refine hK25 _ _ ?_; clear hK25; try clear K25
                  refine wp_cond_false (ha166.ev (x := .tmp 78) rfl) ?_
                  refine wp_skip ?_
                  refine hK24 _ _ ?_; clear hK24; try clear K24
                  refine wp_seq_k (fun K30 hK30 => ?_)
                  refine wp_seq_k (fun K31 hK31 => ?_)
                  have ha167 : Has 93 [(1, _), (5, _), (8, _), (9, _), (51, _), (12, _)] a166 := ha166.only [1, 5, 8, 9, 51, 12]; clear ha166
                  refine wp_region_lit ?_
                  refine st_y ha167 rfl (y_move ha167 rfl) ?_
                  clear ha167 a166; intro a168 ha168
                  refine wpList_nil ?_
                  refine hK31 _ _ ?_; clear hK31; try clear K31
                  refine bool_cases ha168 (t := 79) rfl (fun hb169 ha169 => ?_) (fun hb169 ha169 => ?_)
                  · skip
                    clear ha168
                    try simp only [decide_eq_true_eq, decide_eq_false_iff_not, Bool.not_eq_true, Bool.not_eq_false, Bool.not_eq_eq_eq_not, Bool.not_true, Bool.not_false, Bool.not_not, Int.not_lt, Int.not_le, ne_eq, Decidable.not_not] at hb169
                    refine wp_cond_true (ha169.ev (x := .tmp 79) rfl) ?_
                    refine wp_region_lit ?_
                    refine st_y ha169 rfl (y_move ha169 rfl) ?_
                    clear ha169 a168; intro a170 ha170
                    refine st_y ha170 rfl (y_sub ha170 rfl rfl (r := (fl.length : Int) - 1) (IntWalk.i64_in _ (by omega))) ?_
                    clear ha170 a170; intro a171 ha171
                    refine st_y ha171 rfl (y_assign ha171 rfl) ?_
                    clear ha171 a171; intro a172 ha172
                    refine wpList_nil ?_
                    refine hK30 _ _ ?_; clear hK30; try clear K30
                    refine wp_seq_k (fun K32 hK32 => ?_)
                    refine wp_region_lit ?_
                    refine st_y ha172 rfl (y_move ha172 rfl) ?_
                    clear ha172 a172; intro a173 ha173
                    refine wpList_plain rfl (fun K hK => ?_)
                    refine e_call ha173 Try.func15 rfl rfl rfl rfl (len_any _ _ _ _ _ (m85.ok 1 _ rfl : Res.ok _ _ _ _ (.box _ _ _)).1) ?_
                    rintro e w174 ⟨rfl, hb174⟩
                    have m175 := m85.later hb174
                    clear m85
                    clear hb174
                    refine ⟨_, rfl, fun a176 ha176 => ?_⟩; clear ha173 a173
                    refine hK _ _ ?_; clear hK K
                    refine st_y ha176 rfl (y_move ha176 rfl) ?_
                    clear ha176 a176; intro a177 ha177
                    refine st_y ha177 rfl (y_neq ha177 rfl rfl) ?_
                    clear ha177 a177; intro a178 ha178
                    refine st_y ha178 rfl (y_move ha178 rfl) ?_
                    clear ha178 a178; intro a179 ha179
                    refine bool_cases ha179 (t := 86) rfl (fun hb180 ha180 => ?_) (fun hb180 ha180 => ?_)
                    · exact absurd hb180 (by simp; first | (rw [if_pos (by omega)] at hcnt; omega) | (rw [if_neg (by omega)] at hcnt; omega))
                    clear ha179 hb180
                    refine st_g ha180 rfl rfl rfl rfl (y_move ha180 rfl) ?_
                    clear ha180 a179; intro a181 ha181
                    refine st_ge ha181 rfl rfl rfl rfl (fun K hK => ?_)
                    refine e_call ha181 Try.func16 rfl rfl rfl rfl (all_any _ _ _ (fl2) _ (m175.ok 1 _ rfl : Res.ok _ _ _ _ (.box _ _ _)).1 (m175.segP (i := 1) (j := 2) rfl rfl) (m175.neP (i := 1) (j := 2) (by decide) rfl rfl) (by omega) (fun f hf => Nat.le_trans (hfo2 f hf) (by decide))) ?_
                    rintro e w182 ⟨v182, pp182, cc182, rfl, hp182, hd182⟩
                    have hd182 := hd182.cast (fun b h => m175.freeC (i := 1) (j := 2) (pt := 48) (e := 35) (mm := 3) (rows' := ((fl2).map flD)) h)
                    have m183 := m175.callP 1 2 (by decide) rfl rfl hp182
                    clear m175
                    have m184 := m183.dat 203 rfl hd182
                    clear m183
                    obtain ⟨p182, c182, hv182⟩ := hp182.2.1.shape
                    subst hv182
                    clear hp182 hd182
                    refine ⟨_, rfl, fun a185 ha185 => ?_⟩; clear ha181 a181
                    refine hK _ _ ?_; clear hK K
                    refine st_g ha185 rfl rfl rfl rfl (y_len ha185 rfl Try.underlying27) ?_
                    clear ha185 a185; intro a186 ha186
                    refine st_g ha186 rfl rfl rfl rfl (y_move ha186 rfl) ?_
                    clear ha186 a186; intro a187 ha187
                    refine st_g ha187 rfl rfl rfl rfl (y_neq ha187 rfl rfl) ?_
                    clear ha187 a187; intro a188 ha188
                    refine st_y ha188 rfl (y_pickF ha188 rfl rfl) ?_
                    clear ha188 a188; intro a189 ha189
                    refine wpList_nil ?_
                    refine hK32 _ _ ?_; clear hK32; try clear K32
                    refine bool_cases ha189 (t := 92) rfl (fun hb190 ha190 => ?_) (fun hb190 ha190 => ?_)
                    · exact absurd hb190 (by simp; first | (rw [if_pos (by omega)] at hcnt; omega) | (rw [if_neg (by omega)] at hcnt; omega))
                    clear ha189 hb190
                    refine wp_cond_false (ha190.ev (x := .tmp 92) rfl) ?_
                    refine wp_skip ?_
                    refine hK19 _ _ ?_; clear hK19; try clear K19
                    have ha191 : Has 93 [(1, _), (5, _), (8, _), (9, _), (51, _), (79, _)] a189 := ha190.only [1, 5, 8, 9, 51, 79]; clear ha190
                    refine wp_region_lit ?_
                    refine st_y ha191 rfl (y_move ha191 rfl) ?_
                    clear ha191 a189; intro a192 ha192
                    refine st_y ha192 rfl (y_add ha192 rfl rfl (r := ((k + 1 : Nat) : Int)) (by rw [IntWalk.i64_in _ (by omega)]; omega)) ?_
                    clear ha192 a192; intro a193 ha193
                    refine st_y ha193 rfl (y_assign ha193 rfl) ?_
                    clear ha193 a193; intro a194 ha194
                    refine wpList_nil ?_
                    show ∃ n', n' < _ ∧ _
                    have hlen : (fl2.length : Int) = (fl.length : Int) - 1 := by first | (rw [if_pos (by omega)] at hcnt; omega) | (rw [if_neg (by omega)] at hcnt; omega)
                    rw [← hlen] at ha194
                    exact ⟨picks.length - (k + 1), by omega, k + 1, fl2, _, _, _, _, _, by omega, rfl, by omega, hfo2, ha194.only [1, 5, 8, 9], m184.only [1, 2, 3]⟩
                  · skip
                    clear ha168
                    try simp only [decide_eq_true_eq, decide_eq_false_iff_not, Bool.not_eq_true, Bool.not_eq_false, Bool.not_eq_eq_eq_not, Bool.not_true, Bool.not_false, Bool.not_not, Int.not_lt, Int.not_le, ne_eq, Decidable.not_not] at hb169
                    refine wp_cond_false (ha169.ev (x := .tmp 79) rfl) ?_
                    refine wp_skip ?_
                    refine hK30 _ _ ?_; clear hK30; try clear K30
                    refine wp_seq_k (fun K33 hK33 => ?_)
                    refine wp_region_lit ?_
                    refine st_y ha169 rfl (y_move ha169 rfl) ?_
                    clear ha169 a168; intro a195 ha195
                    refine wpList_plain rfl (fun K hK => ?_)
                    refine e_call ha195 Try.func15 rfl rfl rfl rfl (len_any _ _ _ _ _ (m85.ok 1 _ rfl : Res.ok _ _ _ _ (.box _ _ _)).1) ?_
                    rintro e w196 ⟨rfl, hb196⟩
                    have m197 := m85.later hb196
                    clear m85
                    clear hb196
                    refine ⟨_, rfl, fun a198 ha198 => ?_⟩; clear ha195 a195
                    refine hK _ _ ?_; clear hK K
                    refine st_y ha198 rfl (y_move ha198 rfl) ?_
                    clear ha198 a198; intro a199 ha199
                    refine st_y ha199 rfl (y_neq ha199 rfl rfl) ?_
                    clear ha199 a199; intro a200 ha200
                    refine st_y ha200 rfl (y_move ha200 rfl) ?_
                    clear ha200 a200; intro a201 ha201
                    refine bool_cases ha201 (t := 86) rfl (fun hb202 ha202 => ?_) (fun hb202 ha202 => ?_)
                    · exact absurd hb202 (by simp; first | (rw [if_pos (by omega)] at hcnt; omega) | (rw [if_neg (by omega)] at hcnt; omega))
                    clear ha201 hb202
                    refine st_g ha202 rfl rfl rfl rfl (y_move ha202 rfl) ?_
                    clear ha202 a201; intro a203 ha203
                    refine st_ge ha203 rfl rfl rfl rfl (fun K hK => ?_)
                    refine e_call ha203 Try.func16 rfl rfl rfl rfl (all_any _ _ _ (fl2) _ (m197.ok 1 _ rfl : Res.ok _ _ _ _ (.box _ _ _)).1 (m197.segP (i := 1) (j := 2) rfl rfl) (m197.neP (i := 1) (j := 2) (by decide) rfl rfl) (by omega) (fun f hf => Nat.le_trans (hfo2 f hf) (by decide))) ?_
                    rintro e w204 ⟨v204, pp204, cc204, rfl, hp204, hd204⟩
                    have hd204 := hd204.cast (fun b h => m197.freeC (i := 1) (j := 2) (pt := 48) (e := 35) (mm := 3) (rows' := ((fl2).map flD)) h)
                    have m205 := m197.callP 1 2 (by decide) rfl rfl hp204
                    clear m197
                    have m206 := m205.dat 203 rfl hd204
                    clear m205
                    obtain ⟨p204, c204, hv204⟩ := hp204.2.1.shape
                    subst hv204
                    clear hp204 hd204
                    refine ⟨_, rfl, fun a207 ha207 => ?_⟩; clear ha203 a203
                    refine hK _ _ ?_; clear hK K
                    refine st_g ha207 rfl rfl rfl rfl (y_len ha207 rfl Try.underlying27) ?_
                    clear ha207 a207; intro a208 ha208
                    refine st_g ha208 rfl rfl rfl rfl (y_move ha208 rfl) ?_
                    clear ha208 a208; intro a209 ha209
                    refine st_g ha209 rfl rfl rfl rfl (y_neq ha209 rfl rfl) ?_
                    clear ha209 a209; intro a210 ha210
                    refine st_y ha210 rfl (y_pickF ha210 rfl rfl) ?_
                    clear ha210 a210; intro a211 ha211
                    refine wpList_nil ?_
                    refine hK33 _ _ ?_; clear hK33; try clear K33
                    refine bool_cases ha211 (t := 92) rfl (fun hb212 ha212 => ?_) (fun hb212 ha212 => ?_)
                    · exact absurd hb212 (by simp; first | (rw [if_pos (by omega)] at hcnt; omega) | (rw [if_neg (by omega)] at hcnt; omega))
                    clear ha211 hb212
                    refine wp_cond_false (ha212.ev (x := .tmp 92) rfl) ?_
                    refine wp_skip ?_
                    refine hK19 _ _ ?_; clear hK19; try clear K19
                    have ha213 : Has 93 [(1, _), (5, _), (8, _), (9, _), (51, _), (79, _)] a211 := ha212.only [1, 5, 8, 9, 51, 79]; clear ha212
                    refine wp_region_lit ?_
                    refine st_y ha213 rfl (y_move ha213 rfl) ?_
                    clear ha213 a211; intro a214 ha214
                    refine st_y ha214 rfl (y_add ha214 rfl rfl (r := ((k + 1 : Nat) : Int)) (by rw [IntWalk.i64_in _ (by omega)]; omega)) ?_
                    clear ha214 a214; intro a215 ha215
                    refine st_y ha215 rfl (y_assign ha215 rfl) ?_
                    clear ha215 a215; intro a216 ha216
                    refine wpList_nil ?_
                    show ∃ n', n' < _ ∧ _
                    have hlen : (fl2.length : Int) = (fl.length : Int) := by first | (rw [if_pos (by omega)] at hcnt; omega) | (rw [if_neg (by omega)] at hcnt; omega)
                    rw [← hlen] at ha216
                    exact ⟨picks.length - (k + 1), by omega, k + 1, fl2, _, _, _, _, _, by omega, rfl, by omega, hfo2, ha216.only [1, 5, 8, 9], m206.only [1, 2, 3]⟩
              · skip
                clear ha91
                try simp only [decide_eq_true_eq, decide_eq_false_iff_not, Bool.not_eq_true, Bool.not_eq_false, Bool.not_eq_eq_eq_not, Bool.not_true, Bool.not_false, Bool.not_not, Int.not_lt, Int.not_le, ne_eq, Decidable.not_not] at hb92
                refine st_skip ha92 rfl rfl rfl rfl ?_
                clear ha92 a91; intro a217 ha217
                refine st_skip ha217 rfl rfl rfl rfl ?_
                clear ha217 a217; intro a218 ha218
                refine st_skip ha218 rfl rfl rfl rfl ?_
                clear ha218 a218; intro a219 ha219
                refine st_y ha219 rfl (y_pickF ha219 rfl rfl) ?_
                clear ha219 a219; intro a220 ha220
                refine st_y ha220 rfl (y_neqB ha220 rfl rfl Try.underlying4) ?_
                clear ha220 a220; intro a221 ha221
                refine st_y ha221 rfl (y_move ha221 rfl) ?_
                clear ha221 a221; intro a222 ha222
                refine bool_cases ha222 (t := 69) rfl (fun hb223 ha223 => ?_) (fun hb223 ha223 => ?_)
                · exact absurd hb223 (cnt_f hb92)
                clear ha222 hb223
                refine st_g ha223 rfl rfl rfl rfl (y_move ha223 rfl) ?_
                clear ha223 a222; intro a224 ha224
                refine st_g ha224 rfl rfl rfl rfl (y_not ha224 rfl) ?_
                clear ha224 a224; intro a225 ha225
                refine st_g ha225 rfl rfl rfl rfl (y_move ha225 rfl) ?_
                clear ha225 a225; intro a226 ha226
                refine bool_cases ha226 (t := 72) rfl (fun hb227 ha227 => ?_) (fun hb227 ha227 => ?_)
                · skip
                  clear ha226
                  try simp only [decide_eq_true_eq, decide_eq_false_iff_not, Bool.not_eq_true, Bool.not_eq_false, Bool.not_eq_eq_eq_not, Bool.not_true, Bool.not_false, Bool.not_not, Int.not_lt, Int.not_le, ne_eq, Decidable.not_not] at hb227
                  have hf0 := hemp (by first | exact hb227 | (simp at hb227; omega))
                  refine st_g ha227 rfl rfl rfl rfl (y_fieldAddr ha227 (off := 2) rfl Try.underlying35 rfl (s := 0) (by kernel_rfl) rfl) ?_
                  clear ha227 a226; intro a228 ha228
                  refine st_g ha228 rfl rfl rfl rfl (y_loadB1 ha228 m85 (i := 202) rfl rfl rfl Try.underlying33 rfl) ?_
                  clear ha228 a228; intro a229 ha229
                  refine st_g ha229 rfl rfl rfl rfl (y_len ha229 rfl Try.underlying33) ?_
                  clear ha229 a229; intro a230 ha230
                  refine st_g ha230 rfl rfl rfl rfl (y_neq ha230 rfl rfl) ?_
                  clear ha230 a230; intro a231 ha231
                  refine st_g ha231 rfl rfl rfl rfl (y_pickT ha231 rfl rfl) ?_
                  clear ha231 a231; intro a232 ha232
                  refine st_y ha232 rfl (y_pickF ha232 rfl rfl) ?_
                  clear ha232 a232; intro a233 ha233
                  refine wpList_nil ?_
                  refine hK25 _ _ ?_; clear hK25; try clear K25
                  refine bool_cases ha233 (t := 78) rfl (fun hb234 ha234 => ?_) (fun hb234 ha234 => ?_)
                  · exact absurd hb234 (by simp [hf0])
                  clear ha233 hb234
                  refine wp_cond_false (ha234.ev (x := .tmp 78) rfl) ?_
                  refine wp_skip ?_
                  refine hK24 _ _ ?_; clear hK24; try clear K24
                  refine wp_seq_k (fun K34 hK34 => ?_)
                  refine wp_seq_k (fun K35 hK35 => ?_)
                  have ha235 : Has 93 [(1, _), (5, _), (8, _), (9, _), (51, _), (12, _)] a233 := ha234.only [1, 5, 8, 9, 51, 12]; clear ha234
                  refine wp_region_lit ?_
                  refine st_y ha235 rfl (y_move ha235 rfl) ?_
                  clear ha235 a233; intro a236 ha236
                  refine wpList_nil ?_
                  refine hK35 _ _ ?_; clear hK35; try clear K35
                  refine bool_cases ha236 (t := 79) rfl (fun hb237 ha237 => ?_) (fun hb237 ha237 => ?_)
                  · skip
                    clear ha236
                    try simp only [decide_eq_true_eq, decide_eq_false_iff_not, Bool.not_eq_true, Bool.not_eq_false, Bool.not_eq_eq_eq_not, Bool.not_true, Bool.not_false, Bool.not_not, Int.not_lt, Int.not_le, ne_eq, Decidable.not_not] at hb237
                    refine wp_cond_true (ha237.ev (x := .tmp 79) rfl) ?_
                    refine wp_region_lit ?_
                    refine st_y ha237 rfl (y_move ha237 rfl) ?_
                    clear ha237 a236; intro a238 ha238
                    refine st_y ha238 rfl (y_sub ha238 rfl rfl (r := (fl.length : Int) - 1) (IntWalk.i64_in _ (by omega))) ?_
                    clear ha238 a238; intro a239 ha239
                    refine st_y ha239 rfl (y_assign ha239 rfl) ?_
                    clear ha239 a239; intro a240 ha240
                    refine wpList_nil ?_
                    refine hK34 _ _ ?_; clear hK34; try clear K34
                    refine wp_seq_k (fun K36 hK36 => ?_)
                    refine wp_region_lit ?_
                    refine st_y ha240 rfl (y_move ha240 rfl) ?_
                    clear ha240 a240; intro a241 ha241
                    refine wpList_plain rfl (fun K hK => ?_)
                    refine e_call ha241 Try.func15 rfl rfl rfl rfl (len_any _ _ _ _ _ (m85.ok 1 _ rfl : Res.ok _ _ _ _ (.box _ _ _)).1) ?_
                    rintro e w242 ⟨rfl, hb242⟩
                    have m243 := m85.later hb242
                    clear m85
                    clear hb242
                    refine ⟨_, rfl, fun a244 ha244 => ?_⟩; clear ha241 a241
                    refine hK _ _ ?_; clear hK K
                    refine st_y ha244 rfl (y_move ha244 rfl) ?_
                    clear ha244 a244; intro a245 ha245
                    refine st_y ha245 rfl (y_neq ha245 rfl rfl) ?_
                    clear ha245 a245; intro a246 ha246
                    refine st_y ha246 rfl (y_move ha246 rfl) ?_
                    clear ha246 a246; intro a247 ha247
                    refine bool_cases ha247 (t := 86) rfl (fun hb248 ha248 => ?_) (fun hb248 ha248 => ?_)
                    · exact absurd hb248 (by simp; first | (rw [if_pos (by omega)] at hcnt; omega) | (rw [if_neg (by omega)] at hcnt; omega))
                    clear ha247 hb248
                    refine st_g ha248 rfl rfl rfl rfl (y_move ha248 rfl) ?_
                    clear ha248 a247; intro a249 ha249
                    refine st_ge ha249 rfl rfl rfl rfl (fun K hK => ?_)
                    refine e_call ha249 Try.func16 rfl rfl rfl rfl (all_any _ _ _ (fl2) _ (m243.ok 1 _ rfl : Res.ok _ _ _ _ (.box _ _ _)).1 (m243.segP (i := 1) (j := 2) rfl rfl) (m243.neP (i := 1) (j := 2) (by decide) rfl rfl) (by omega) (fun f hf => Nat.le_trans (hfo2 f hf) (by decide))) ?_
                    rintro e w250 ⟨v250, pp250, cc250, rfl, hp250, hd250⟩
                    have hd250 := hd250.cast (fun b h => m243.freeC (i := 1) (j := 2) (pt := 48) (e := 35) (mm := 3) (rows' := ((fl2).map flD)) h)
                    have m251 := m243.callP 1 2 (by decide) rfl rfl hp250
                    clear m243
                    have m252 := m251.dat 203 rfl hd250
                    clear m251
                    obtain ⟨p250, c250, hv250⟩ := hp250.2.1.shape
                    subst hv250
                    clear hp250 hd250
                    refine ⟨_, rfl, fun a253 ha253 => ?_⟩; clear ha249 a249
                    refine hK _ _ ?_; clear hK K
                    refine st_g ha253 rfl rfl rfl rfl (y_len ha253 rfl Try.underlying27) ?_
                    clear ha253 a253; intro a254 ha254
                    refine st_g ha254 rfl rfl rfl rfl (y_move ha254 rfl) ?_
                    clear ha254 a254; intro a255 ha255
                    refine st_g ha255 rfl rfl rfl rfl (y_neq ha255 rfl rfl) ?_
                    clear ha255 a255; intro a256 ha256
                    refine st_y ha256 rfl (y_pickF ha256 rfl rfl) ?_
                    clear ha256 a256; intro a257 ha257
                    refine wpList_nil ?_
                    refine hK36 _ _ ?_; clear hK36; try clear K36
                    refine bool_cases ha257 (t := 92) rfl (fun hb258 ha258 => ?_) (fun hb258 ha258 => ?_)
                    · exact absurd hb258 (by simp; first | (rw [if_pos (by omega)] at hcnt; omega) | (rw [if_neg (by omega)] at hcnt; omega))
                    clear ha257 hb258
                    refine wp_cond_false (ha258.ev (x := .tmp 92) rfl) ?_
                    refine wp_skip ?_
                    refine hK19 _ _ ?_; clear hK19; try clear K19
                    have ha259 : Has 93 [(1, _), (5, _), (8, _), (9, _), (51, _), (79, _)] a257 := ha258.only [1, 5, 8, 9, 51, 79]; clear ha258
                    refine wp_region_lit ?_
                    refine st_y ha259 rfl (y_move ha259 rfl) ?_
                    clear ha259 a257; intro a260 ha260
                    refine st_y ha260 rfl (y_add ha260 rfl rfl (r := ((k + 1 : Nat) : Int)) (by rw [IntWalk.i64_in _ (by omega)]; omega)) ?_
                    clear ha260 a260; intro a261 ha261
                    refine st_y ha261 rfl (y_assign ha261 rfl) ?_
                    clear ha261 a261; intro a262 ha262
                    refine wpList_nil ?_
                    show ∃ n', n' < _ ∧ _
                    have hlen : (fl2.length : Int) = (fl.length : Int) - 1 := by first | (rw [if_pos (by omega)] at hcnt; omega) | (rw [if_neg (by omega)] at hcnt; omega)
                    rw [← hlen] at ha262
                    exact ⟨picks.length - (k + 1), by omega, k + 1, fl2, _, _, _, _, _, by omega, rfl, by omega, hfo2, ha262.only [1, 5, 8, 9], m252.only [1, 2, 3]⟩
                  · skip
                    clear ha236
                    try simp only [decide_eq_true_eq, decide_eq_false_iff_not, Bool.not_eq_true, Bool.not_eq_false, Bool.not_eq_eq_eq_not, Bool.not_true, Bool.not_false, Bool.not_not, Int.not_lt, Int.not_le, ne_eq, Decidable.not_not] at hb237
                    refine wp_cond_false (ha237.ev (x := .tmp 79) rfl) ?_
                    refine wp_skip ?_
                    refine hK34 _ _ ?_; clear hK34; try clear K34
                    refine wp_seq_k (fun K37 hK37 => ?_)
                    refine wp_region_lit ?_
                    refine st_y ha237 rfl (y_move ha237 rfl) ?_
                    clear ha237 a236; intro a263 ha263
                    refine wpList_plain rfl (fun K hK => ?_)
                    refine e_call ha263 Try.func15 rfl rfl rfl rfl (len_any _ _ _ _ _ (m85.ok 1 _ rfl : Res.ok _ _ _ _ (.box _ _ _)).1) ?_
                    rintro e w264 ⟨rfl, hb264⟩
                    have m265 := m85.later hb264
                    clear m85
                    clear hb264
                    refine ⟨_, rfl, fun a266 ha266 => ?_⟩; clear ha263 a263
                    refine hK _ _ ?_; clear hK K
                    refine st_y ha266 rfl (y_move ha266 rfl) ?_
                    clear ha266 a266; intro a267 ha267
                    refine st_y ha267 rfl (y_neq ha267 rfl rfl) ?_
                    clear ha267 a267; intro a268 ha268
                    refine st_y ha268 rfl (y_move ha268 rfl) ?_
                    clear ha268 a268; intro a269 ha269
                    refine bool_cases ha269 (t := 86) rfl (fun hb270 ha270 => ?_) (fun hb270 ha270 => ?_)
                    · exact absurd hb270 (by simp; first | (rw [if_pos (by omega)] at hcnt; omega) | (rw [if_neg (by omega)] at hcnt; omega))
                    clear ha269 hb270
                    refine st_g ha270 rfl rfl rfl rfl (y_move ha270 rfl) ?_
                    clear ha270 a269; intro a271 ha271
                    refine st_ge ha271 rfl rfl rfl rfl (fun K hK => ?_)
                    refine e_call ha271 Try.func16 rfl rfl rfl rfl (all_any _ _ _ (fl2) _ (m265.ok 1 _ rfl : Res.ok _ _ _ _ (.box _ _ _)).1 (m265.segP (i := 1) (j := 2) rfl rfl) (m265.neP (i := 1) (j := 2) (by decide) rfl rfl) (by omega) (fun f hf => Nat.le_trans (hfo2 f hf) (by decide))) ?_
                    rintro e w272 ⟨v272, pp272, cc272, rfl, hp272, hd272⟩
                    have hd272 := hd272.cast (fun b h => m265.freeC (i := 1) (j := 2) (pt := 48) (e := 35) (mm := 3) (rows' := ((fl2).map flD)) h)
                    have m273 := m265.callP 1 2 (by decide) rfl rfl hp272
                    clear m265
                    have m274 := m273.dat 203 rfl hd272
                    clear m273
                    obtain ⟨p272, c272, hv272⟩ := hp272.2.1.shape
                    subst hv272
                    clear hp272 hd272
                    refine ⟨_, rfl, fun a275 ha275 => ?_⟩; clear ha271 a271
                    refine hK _ _ ?_; clear hK K
                    refine st_g ha275 rfl rfl rfl rfl (y_len ha275 rfl Try.underlying27) ?_
                    clear ha275 a275; intro a276 ha276
                    refine st_g ha276 rfl rfl rfl rfl (y_move ha276 rfl) ?_
                    clear ha276 a276; intro a277 ha277
                    refine st_g ha277 rfl rfl rfl rfl (y_neq ha277 rfl rfl) ?_
                    clear ha277 a277; intro a278 ha278
                    refine st_y ha278 rfl (y_pickF ha278 rfl rfl) ?_
                    clear ha278 a278; intro a279 ha279
                    refine wpList_nil ?_
                    refine hK37 _ _ ?_; clear hK37; try clear K37
                    refine bool_cases ha279 (t := 92) rfl (fun hb280 ha280 => ?_) (fun hb280 ha280 => ?_)
                    · exact absurd hb280 (by simp; first | (rw [if_pos (by omega)] at hcnt; omega) | (rw [if_neg (by omega)] at hcnt; omega))
                    clear ha279 hb280
                    refine wp_cond_false (ha280.ev (x := .tmp 92) rfl) ?_
                    refine wp_skip ?_
                    refine hK19 _ _ ?_; clear hK19; try clear K19
                    have ha281 : Has 93 [(1, _), (5, _), (8, _), (9, _), (51, _), (79, _)] a279 := ha280.only [1, 5, 8, 9, 51, 79]; clear ha280
                    refine wp_region_lit ?_
                    refine st_y ha281 rfl (y_move ha281 rfl) ?_
                    clear ha281 a279; intro a282 ha282
                    refine st_y ha282 rfl (y_add ha282 rfl rfl (r := ((k + 1 : Nat) : Int)) (by rw [IntWalk.i64_in _ (by omega)]; omega)) ?_
                    clear ha282 a282; intro a283 ha283
                    refine st_y ha283 rfl (y_assign ha283 rfl) ?_
                    clear ha283 a283; intro a284 ha284
                    refine wpList_nil ?_
                    show ∃ n', n' < _ ∧ _
                    have hlen : (fl2.length : Int) = (fl.length : Int) := by first | (rw [if_pos (by omega)] at hcnt; omega) | (rw [if_neg (by omega)] at hcnt; omega)
                    rw [← hlen] at ha284
                    exact ⟨picks.length - (k + 1), by omega, k + 1, fl2, _, _, _, _, _, by omega, rfl, by omega, hfo2, ha284.only [1, 5, 8, 9], m274.only [1, 2, 3]⟩
                · skip
                  clear ha226
                  try simp only [decide_eq_true_eq, decide_eq_false_iff_not, Bool.not_eq_true, Bool.not_eq_false, Bool.not_eq_eq_eq_not, Bool.not_true, Bool.not_false, Bool.not_not, Int.not_lt, Int.not_le, ne_eq, Decidable.not_not] at hb227
                  refine st_skip ha227 rfl rfl rfl rfl ?_
                  clear ha227 a226; intro a285 ha285
                  refine st_skip ha285 rfl rfl rfl rfl ?_
                  clear ha285 a285; intro a286 ha286
                  refine st_skip ha286 rfl rfl rfl rfl ?_
                  clear ha286 a286; intro a287 ha287
                  refine st_skip ha287 rfl rfl rfl rfl ?_
                  clear ha287 a287; intro a288 ha288
                  refine st_g ha288 rfl rfl rfl rfl (y_pickF ha288 rfl rfl) ?_
                  clear ha288 a288; intro a289 ha289
                  refine st_y ha289 rfl (y_pickF ha289 rfl rfl) ?_
                  clear ha289 a289; intro a290 ha290
                  refine wpList_nil ?_
                  refine hK25 _ _ ?_; clear hK25; try clear K25
                  refine wp_cond_false (ha290.ev (x := .tmp 78) rfl) ?_
                  refine wp_skip ?_
                  refine hK24 _ _ ?_; clear hK24; try clear K24
                  refine wp_seq_k (fun K38 hK38 => ?_)
                  refine wp_seq_k (fun K39 hK39 => ?_)
                  have ha291 : Has 93 [(1, _), (5, _), (8, _), (9, _), (51, _), (12, _)] a290 := ha290.only [1, 5, 8, 9, 51, 12]; clear ha290
                  refine wp_region_lit ?_
                  refine st_y ha291 rfl (y_move ha291 rfl) ?_
                  clear ha291 a290; intro a292 ha292
                  refine wpList_nil ?_
                  refine hK39 _ _ ?_; clear hK39; try clear K39
                  refine bool_cases ha292 (t := 79) rfl (fun hb293 ha293 => ?_) (fun hb293 ha293 => ?_)
                  · skip
                    clear ha292
                    try simp only [decide_eq_true_eq, decide_eq_false_iff_not, Bool.not_eq_true, Bool.not_eq_false, Bool.not_eq_eq_eq_not, Bool.not_true, Bool.not_false, Bool.not_not, Int.not_lt, Int.not_le, ne_eq, Decidable.not_not] at hb293
                    refine wp_cond_true (ha293.ev (x := .tmp 79) rfl) ?_
                    refine wp_region_lit ?_
                    refine st_y ha293 rfl (y_move ha293 rfl) ?_
                    clear ha293 a292; intro a294 ha294
                    refine st_y ha294 rfl (y_sub ha294 rfl rfl (r := (fl.length : Int) - 1) (IntWalk.i64_in _ (by omega))) ?_
                    clear ha294 a294; intro a295 ha295
                    refine st_y ha295 rfl (y_assign ha295 rfl) ?_
                    clear ha295 a295; intro a296 ha296
                    refine wpList_nil ?_
                    refine hK38 _ _ ?_; clear hK38; try clear K38
                    refine wp_seq_k (fun K40 hK40 => ?_)
                    refine wp_region_lit ?_
                    refine st_y ha296 rfl (y_move ha296 rfl) ?_
                    clear ha296 a296; intro a297 ha297
                    refine wpList_plain rfl (fun K hK => ?_)
                    refine e_call ha297 Try.func15 rfl rfl rfl rfl (len_any _ _ _ _ _ (m85.ok 1 _ rfl : Res.ok _ _ _ _ (.box _ _ _)).1) ?_
                    rintro e w298 ⟨rfl, hb298⟩
                    have m299 := m85.later hb298
                    clear m85
                    clear hb298
                    refine ⟨_, rfl, fun a300 ha300 => ?_⟩; clear ha297 a297
                    refine hK _ _ ?_; clear hK K
                    refine st_y ha300 rfl (y_move ha300 rfl) ?_
                    clear ha300 a300; intro a301 ha301
                    refine st_y ha301 rfl (y_neq ha301 rfl rfl) ?_
                    clear ha301 a301; intro a302 ha302
                    refine st_y ha302 rfl (y_move ha302 rfl) ?_
                    clear ha302 a302; intro a303 ha303
                    refine bool_cases ha303 (t := 86) rfl (fun hb304 ha304 => ?_) (fun hb304 ha304 => ?_)
                    · exact absurd hb304 (by simp; first | (rw [if_pos (by omega)] at hcnt; omega) | (rw [if_neg (by omega)] at hcnt; omega))
                    clear ha303 hb304
                    refine st_g ha304 rfl rfl rfl rfl (y_move ha304 rfl) ?_
                    clear ha304 a303; intro a305 ha305
                    refine st_ge ha305 rfl rfl rfl rfl (fun K hK => ?_)
                    refine e_call ha305 Try.func16 rfl rfl rfl rfl (all_any _ _ _ (fl2) _ (m299.ok 1 _ rfl : Res.ok _ _ _ _ (.box _ _ _)).1 (m299.segP (i := 1) (j := 2) rfl rfl) (m299.neP (i := 1) (j := 2) (by decide) rfl rfl) (by omega) (fun f hf => Nat.le_trans (hfo2 f hf) (by decide))) ?_
                    rintro e w306 ⟨v306, pp306, cc306, rfl, hp306, hd306⟩
                    have hd306 := hd306.cast (fun b h => m299.freeC (i := 1) (j := 2) (pt := 48) (e := 35) (mm := 3) (rows' := ((fl2).map flD)) h)
                    have m307 := m299.callP 1 2 (by decide) rfl rfl hp306
                    clear m299
                    have m308 := m307.dat 203 rfl hd306
                    clear m307
                    obtain ⟨p306, c306, hv306⟩ := hp306.2.1.shape
                    subst hv306
                    clear hp306 hd306
                    refine ⟨_, rfl, fun a309 ha309 => ?_⟩; clear ha305 a305
                    refine hK _ _ ?_; clear hK K
                    refine st_g ha309 rfl rfl rfl rfl (y_len ha309 rfl Try.underlying27) ?_
                    clear ha309 a309; intro a310 ha310
                    refine st_g ha310 rfl rfl rfl rfl (y_move ha310 rfl) ?_
                    clear ha310 a310; intro a311 ha311
                    refine st_g ha311 rfl rfl rfl rfl (y_neq ha311 rfl rfl) ?_
                    clear ha311 a311; intro a312 ha312
                    refine st_y ha312 rfl (y_pickF ha312 rfl rfl) ?_
                    clear ha312 a312; intro a313 ha313
                    refine wpList_nil ?_
                    refine hK40 _ _ ?_; clear hK40; try clear K40
                    refine bool_cases ha313 (t := 92) rfl (fun hb314 ha314 => ?_) (fun hb314 ha314 => ?_)
                    · exact absurd hb314 (by simp; first | (rw [if_pos (by omega)] at hcnt; omega) | (rw [if_neg (by omega)] at hcnt; omega))
                    clear ha313 hb314
                    refine wp_cond_false (ha314.ev (x := .tmp 92) rfl) ?_
                    refine wp_skip ?_
                    refine hK19 _ _ ?_; clear hK19; try clear K19
                    have ha315 : Has 93 [(1, _), (5, _), (8, _), (9, _), (51, _), (79, _)] a313 := ha314.only [1, 5, 8, 9, 51, 79]; clear ha314
                    refine wp_region_lit ?_
                    refine st_y ha315 rfl (y_move ha315 rfl) ?_
                    clear ha315 a313; intro a316 ha316
                    refine st_y ha316 rfl (y_add ha316 rfl rfl (r := ((k + 1 : Nat) : Int)) (by rw [IntWalk.i64_in _ (by omega)]; omega)) ?_
                    clear ha316 a316; intro a317 ha317
                    refine st_y ha317 rfl (y_assign ha317 rfl) ?_
                    clear ha317 a317; intro a318 ha318
                    refine wpList_nil ?_
                    show ∃ n', n' < _ ∧ _
                    have hlen : (fl2.length : Int) = (fl.length : Int) - 1 := by first | (rw [if_pos (by omega)] at hcnt; omega) | (rw [if_neg (by omega)] at hcnt; omega)
                    rw [← hlen] at ha318
                    exact ⟨picks.length - (k + 1), by omega, k + 1, fl2, _, _, _, _, _, by omega, rfl, by omega, hfo2, ha318.only [1, 5, 8, 9], m308.only [1, 2, 3]⟩
                  · skip
                    clear ha292
                    try simp only [decide_eq_true_eq, decide_eq_false_iff_not, Bool.not_eq_true, Bool.not_eq_false, Bool.not_eq_eq_eq_not, Bool.not_true, Bool.not_false, Bool.not_not, Int.not_lt, Int.not_le, ne_eq, Decidable.not_not] at hb293
                    refine wp_cond_false (ha293.ev (x := .tmp 79) rfl) ?_
                    refine wp_skip ?_
                    refine hK38 _ _ ?_; clear hK38; try clear K38
                    refine wp_seq_k (fun K41 hK41 => ?_)
                    refine wp_region_lit ?_
                    refine st_y ha293 rfl (y_move ha293 rfl) ?_
                    clear ha293 a292; intro a319 ha319
                    refine wpList_plain rfl (fun K hK => ?_)
                    refine e_call ha319 Try.func15 rfl rfl rfl rfl (len_any _ _ _ _ _ (m85.ok 1 _ rfl : Res.ok _ _ _ _ (.box _ _ _)).1) ?_
                    rintro e w320 ⟨rfl, hb320⟩
                    have m321 := m85.later hb320
                    clear m85
                    clear hb320
                    refine ⟨_, rfl, fun a322 ha322 => ?_⟩; clear ha319 a319
                    refine hK _ _ ?_; clear hK K
                    refine st_y ha322 rfl (y_move ha322 rfl) ?_
                    clear ha322 a322; intro a323 ha323
                    refine st_y ha323 rfl (y_neq ha323 rfl rfl) ?_
                    clear ha323 a323; intro a324 ha324
                    refine st_y ha324 rfl (y_move ha324 rfl) ?_
                    clear ha324 a324; intro a325 ha325
                    refine bool_cases ha325 (t := 86) rfl (fun hb326 ha326 => ?_) (fun hb326 ha326 => ?_)
                    · exact absurd hb326 (by simp; first | (rw [if_pos (by omega)] at hcnt; omega) | (rw [if_neg (by omega)] at hcnt; omega))
                    clear ha325 hb326
                    refine st_g ha326 rfl rfl rfl rfl (y_move ha326 rfl) ?_
                    clear ha326 a325; intro a327 ha327
                    refine st_ge ha327 rfl rfl rfl rfl (fun K hK => ?_)
                    refine e_call ha327 Try.func16 rfl rfl rfl rfl (all_any _ _ _ (fl2) _ (m321.ok 1 _ rfl : Res.ok _ _ _ _ (.box _ _ _)).1 (m321.segP (i := 1) (j := 2) rfl rfl) (m321.neP (i := 1) (j := 2) (by decide) rfl rfl) (by omega) (fun f hf => Nat.le_trans (hfo2 f hf) (by decide))) ?_
                    rintro e w328 ⟨v328, pp328, cc328, rfl, hp328, hd328⟩
                    have hd328 := hd328.cast (fun b h => m321.freeC (i := 1) (j := 2) (pt := 48) (e := 35) (mm := 3) (rows' := ((fl2).map flD)) h)
                    have m329 := m321.callP 1 2 (by decide) rfl rfl hp328
                    clear m321
                    have m330 := m329.dat 203 rfl hd328
                    clear m329
                    obtain ⟨p328, c328, hv328⟩ := hp328.2.1.shape
                    subst hv328
                    clear hp328 hd328
                    refine ⟨_, rfl, fun a331 ha331 => ?_⟩; clear ha327 a327
                    refine hK _ _ ?_; clear hK K
                    refine st_g ha331 rfl rfl rfl rfl (y_len ha331 rfl Try.underlying27) ?_
                    clear ha331 a331; intro a332 ha332
                    refine st_g ha332 rfl rfl rfl rfl (y_move ha332 rfl) ?_
                    clear ha332 a332; intro a333 ha333
                    refine st_g ha333 rfl rfl rfl rfl (y_neq ha333 rfl rfl) ?_
                    clear ha333 a333; intro a334 ha334
                    refine st_y ha334 rfl (y_pickF ha334 rfl rfl) ?_
                    clear ha334 a334; intro a335 ha335
                    refine wpList_nil ?_
                    refine hK41 _ _ ?_; clear hK41; try clear K41
                    refine bool_cases ha335 (t := 92) rfl (fun hb336 ha336 => ?_) (fun hb336 ha336 => ?_)
                    · exact absurd hb336 (by simp; first | (rw [if_pos (by omega)] at hcnt; omega) | (rw [if_neg (by omega)] at hcnt; omega))
                    clear ha335 hb336
                    refine wp_cond_false (ha336.ev (x := .tmp 92) rfl) ?_
                    refine wp_skip ?_
                    refine hK19 _ _ ?_; clear hK19; try clear K19
                    have ha337 : Has 93 [(1, _), (5, _), (8, _), (9, _), (51, _), (79, _)] a335 := ha336.only [1, 5, 8, 9, 51, 79]; clear ha336
                    refine wp_region_lit ?_
                    refine st_y ha337 rfl (y_move ha337 rfl) ?_
                    clear ha337 a335; intro a338 ha338
                    refine st_y ha338 rfl (y_add ha338 rfl rfl (r := ((k + 1 : Nat) : Int)) (by rw [IntWalk.i64_in _ (by omega)]; omega)) ?_
                    clear ha338 a338; intro a339 ha339
                    refine st_y ha339 rfl (y_assign ha339 rfl) ?_
                    clear ha339 a339; intro a340 ha340
                    refine wpList_nil ?_
                    show ∃ n', n' < _ ∧ _
                    have hlen : (fl2.length : Int) = (fl.length : Int) := by first | (rw [if_pos (by omega)] at hcnt; omega) | (rw [if_neg (by omega)] at hcnt; omega)
                    rw [← hlen] at ha340
                    exact ⟨picks.length - (k + 1), by omega, k + 1, fl2, _, _, _, _, _, by omega, rfl, by omega, hfo2, ha340.only [1, 5, 8, 9], m330.only [1, 2, 3]⟩
            · skip
              clear ha69
              try simp only [decide_eq_true_eq, decide_eq_false_iff_not, Bool.not_eq_true, Bool.not_eq_false, Bool.not_eq_eq_eq_not, Bool.not_true, Bool.not_false, Bool.not_not, Int.not_lt, Int.not_le, ne_eq, Decidable.not_not] at hb70
              refine wp_cond_false (ha70.ev (x := .tmp 51) rfl) ?_
              refine wp_skip ?_
              refine hK21 _ _ ?_; clear hK21; try clear K21
              refine wp_seq_k (fun K42 hK42 => ?_)
              refine wp_region_lit ?_
              refine st_y ha70 rfl (y_move ha70 rfl) ?_
              clear ha70 a69; intro a341 ha341
              refine st_y ha341 rfl (y_move ha341 rfl) ?_
              clear ha341 a341; intro a342 ha342
              refine wpList_plain rfl (fun K hK => ?_)
              refine e_call ha342 Try.func10 rfl rfl rfl rfl (take_any _ _ _ _ (picks.getD k 0) fl _ (m62.ok 1 _ rfl : Res.ok _ _ _ _ (.box _ _ _)).1 (m62.segP (i := 1) (j := 2) rfl rfl) (m62.neP (i := 1) (j := 2) (by decide) rfl rfl) (by omega)) ?_
              rintro e w343 ⟨v343, tf343, tt343, fd, pp343, cc343, fl2, rfl, hp343, hd343, hcnt, hemp, hsub⟩
              have hd343 := hd343.cast (fun b h => m62.freeC (i := 1) (j := 2) (pt := 48) (e := 35) (mm := 3) (rows' := (fl2.map flD)) h)
              have m344 := m62.callP 1 2 (by decide) rfl rfl hp343
              clear m62
              have m345 := m344.dat 201 rfl hd343
              clear m344
              obtain ⟨p343, c343, hv343⟩ := hp343.2.1.shape
              subst hv343
              clear hp343 hd343
              have hfo2 : ∀ f ∈ fl2, f.2.2.length ≤ 1 := fun f hf => hfo f (hsub f hf)
              have hfl2 : fl2.length ≤ fl.length := by split at hcnt <;> omega
              refine ⟨_, rfl, fun a346 ha346 => ?_⟩; clear ha342 a342
              refine hK _ _ ?_; clear hK K
              refine st_y ha346 rfl (y_move ha346 rfl) ?_
              clear ha346 a346; intro a347 ha347
              refine st_y ha347 rfl (y_extract ha347 rfl rfl) ?_
              clear ha347 a347; intro a348 ha348
              refine st_y ha348 rfl (y_extract ha348 rfl rfl) ?_
              clear ha348 a348; intro a349 ha349
              refine wpList_plain rfl (fun K hK => ?_)
              refine e_alloc ha349 m345 202 zc35p rfl ?_
              clear ha349 a349 m345; intro g350 a351 w351 ha351 m351 hB351 hg351
              clear hB351 hg351
              refine hK _ _ ?_; clear hK K
              refine wpList_plain rfl (fun K hK => ?_)
              refine e_storeW ha351 m351 202 rfl rfl rfl rfl rfl sz35p ?_
              clear m351; intro w352 m352 hB352
              clear hB352
              refine hK _ _ ?_; clear hK K
              refine st_y ha351 rfl (y_assign ha351 rfl) ?_
              clear ha351 a351; intro a353 ha353
              refine wpList_nil ?_
              refine hK42 _ _ ?_; clear hK42; try clear K42
              refine wp_seq_k (fun K43 hK43 => ?_)
              refine wp_seq_k (fun K44 hK44 => ?_)
              have ha354 : Has 93 [(1, _), (5, _), (8, _), (9, _), (10, _), (51, _), (11, _), (12, _)] a353 := ha353.only [1, 5, 8, 9, 10, 51, 11, 12]; clear ha353
              refine wp_region_lit ?_
              refine st_y ha354 rfl (y_move ha354 rfl) ?_
              clear ha354 a353; intro a355 ha355
              refine st_y ha355 rfl (y_move ha355 rfl) ?_
              clear ha355 a355; intro a356 ha356
              refine st_y ha356 rfl (y_geq ha356 rfl rfl) ?_
              clear ha356 a356; intro a357 ha357
              refine st_y ha357 rfl (y_move ha357 rfl) ?_
              clear ha357 a357; intro a358 ha358
              refine bool_cases ha358 (t := 63) rfl (fun hb359 ha359 => ?_) (fun hb359 ha359 => ?_)
              · skip
                clear ha358
                try simp only [decide_eq_true_eq, decide_eq_false_iff_not, Bool.not_eq_true, Bool.not_eq_false, Bool.not_eq_eq_eq_not, Bool.not_true, Bool.not_false, Bool.not_not, Int.not_lt, Int.not_le, ne_eq, Decidable.not_not] at hb359
                refine st_g ha359 rfl rfl rfl rfl (y_move ha359 rfl) ?_
                clear ha359 a358; intro a360 ha360
                refine st_g ha360 rfl rfl rfl rfl (y_move ha360 rfl) ?_
                clear ha360 a360; intro a361 ha361
                refine st_g ha361 rfl rfl rfl rfl (y_lss ha361 rfl rfl) ?_
                clear ha361 a361; intro a362 ha362
                refine st_y ha362 rfl (y_pickT ha362 rfl rfl) ?_
                clear ha362 a362; intro a363 ha363
                refine st_y ha363 rfl (y_neqB ha363 rfl rfl Try.underlying4) ?_
                clear ha363 a363; intro a364 ha364
                refine st_y ha364 rfl (y_move ha364 rfl) ?_
                clear ha364 a364; intro a365 ha365
                refine bool_cases ha365 (t := 69) rfl (fun hb366 ha366 => ?_) (fun hb366 ha366 => ?_)
                · exact absurd hb366 (cnt_t hb359)
                clear ha365 hb366
                refine st_g ha366 rfl rfl rfl rfl (y_move ha366 rfl) ?_
                clear ha366 a365; intro a367 ha367
                refine st_g ha367 rfl rfl rfl rfl (y_not ha367 rfl) ?_
                clear ha367 a367; intro a368 ha368
                refine st_g ha368 rfl rfl rfl rfl (y_move ha368 rfl) ?_
                clear ha368 a368; intro a369 ha369
                refine bool_cases ha369 (t := 72) rfl (fun hb370 ha370 => ?_) (fun hb370 ha370 => ?_)
                · skip
                  clear ha369
                  try simp only [decide_eq_true_eq, decide_eq_false_iff_not, Bool.not_eq_true, Bool.not_eq_false, Bool.not_eq_eq_eq_not, Bool.not_true, Bool.not_false, Bool.not_not, Int.not_lt, Int.not_le, ne_eq, Decidable.not_not] at hb370
                  have hf0 := hemp (by first | exact hb370 | (simp at hb370; omega))
                  refine st_g ha370 rfl rfl rfl rfl (y_fieldAddr ha370 (off := 2) rfl Try.underlying35 rfl (s := 0) (by kernel_rfl) rfl) ?_
                  clear ha370 a369; intro a371 ha371
                  refine st_g ha371 rfl rfl rfl rfl (y_loadB1 ha371 m352 (i := 202) rfl rfl rfl Try.underlying33 rfl) ?_
                  clear ha371 a371; intro a372 ha372
                  refine st_g ha372 rfl rfl rfl rfl (y_len ha372 rfl Try.underlying33) ?_
                  clear ha372 a372; intro a373 ha373
                  refine st_g ha373 rfl rfl rfl rfl (y_neq ha373 rfl rfl) ?_
                  clear ha373 a373; intro a374 ha374
                  refine st_g ha374 rfl rfl rfl rfl (y_pickT ha374 rfl rfl) ?_
                  clear ha374 a374; intro a375 ha375
                  refine st_y ha375 rfl (y_pickF ha375 rfl rfl) ?_
                  clear ha375 a375; intro a376 ha376
                  refine wpList_nil ?_
                  refine hK44 _ _ ?_; clear hK44; try clear K44
                  refine bool_cases ha376 (t := 78) rfl (fun hb377 ha377 => ?_) (fun hb377 ha377 => ?_)
                  · exact absurd hb377 (by simp [hf0])
                  clear ha376 hb377
                  refine wp_cond_false (ha377.ev (x := .tmp 78) rfl) ?_
                  refine wp_skip ?_
                  refine hK43 _ _ ?_; clear hK43; try clear K43
                  refine wp_seq_k (fun K45 hK45 => ?_)
                  refine wp_seq_k (fun K46 hK46 => ?_)
                  have ha378 : Has 93 [(1, _), (5, _), (8, _), (9, _), (51, _), (12, _)] a376 := ha377.only [1, 5, 8, 9, 51, 12]; clear ha377
                  refine wp_region_lit ?_
                  refine st_y ha378 rfl (y_move ha378 rfl) ?_
                  clear ha378 a376; intro a379 ha379
                  refine wpList_nil ?_
                  refine hK46 _ _ ?_; clear hK46; try clear K46
                  refine bool_cases ha379 (t := 79) rfl (fun hb380 ha380 => ?_) (fun hb380 ha380 => ?_)
                  · skip
                    clear ha379
                    try simp only [decide_eq_true_eq, decide_eq_false_iff_not, Bool.not_eq_true, Bool.not_eq_false, Bool.not_eq_eq_eq_not, Bool.not_true, Bool.not_false, Bool.not_not, Int.not_lt, Int.not_le, ne_eq, Decidable.not_not] at hb380
                    refine wp_cond_true (ha380.ev (x := .tmp 79) rfl) ?_
                    refine wp_region_lit ?_
                    refine st_y ha380 rfl (y_move ha380 rfl) ?_
                    clear ha380 a379; intro a381 ha381
                    refine st_y ha381 rfl (y_sub ha381 rfl rfl (r := (fl.length : Int) - 1) (IntWalk.i64_in _ (by omega))) ?_
                    clear ha381 a381; intro a382 ha382
                    refine st_y ha382 rfl (y_assign ha382 rfl) ?_
                    clear ha382 a382; intro a383 ha383
                    refine wpList_nil ?_
                    refine hK45 _ _ ?_; clear hK45; try clear K45
                    refine wp_seq_k (fun K47 hK47 => ?_)
                    refine wp_region_lit ?_
                    refine st_y ha383 rfl (y_move ha383 rfl) ?_
                    clear ha383 a383; intro a384 ha384
                    refine wpList_plain rfl (fun K hK => ?_)
                    refine e_call ha384 Try.func15 rfl rfl rfl rfl (len_any _ _ _ _ _ (m352.ok 1 _ rfl : Res.ok _ _ _ _ (.box _ _ _)).1) ?_
                    rintro e w385 ⟨rfl, hb385⟩
                    have m386 := m352.later hb385
                    clear m352
                    clear hb385
                    refine ⟨_, rfl, fun a387 ha387 => ?_⟩; clear ha384 a384
                    refine hK _ _ ?_; clear hK K
                    refine st_y ha387 rfl (y_move ha387 rfl) ?_
                    clear ha387 a387; intro a388 ha388
                    refine st_y ha388 rfl (y_neq ha388 rfl rfl) ?_
                    clear ha388 a388; intro a389 ha389
                    refine st_y ha389 rfl (y_move ha389 rfl) ?_
                    clear ha389 a389; intro a390 ha390
                    refine bool_cases ha390 (t := 86) rfl (fun hb391 ha391 => ?_) (fun hb391 ha391 => ?_)
                    · exact absurd hb391 (by simp; first | (rw [if_pos (by omega)] at hcnt; omega) | (rw [if_neg (by omega)] at hcnt; omega))
                    clear ha390 hb391
                    refine st_g ha391 rfl rfl rfl rfl (y_move ha391 rfl) ?_
                    clear ha391 a390; intro a392 ha392
                    refine st_ge ha392 rfl rfl rfl rfl (fun K hK => ?_)
                    refine e_call ha392 Try.func16 rfl rfl rfl rfl (all_any _ _ _ (fl2) _ (m386.ok 1 _ rfl : Res.ok _ _ _ _ (.box _ _ _)).1 (m386.segP (i := 1) (j := 2) rfl rfl) (m386.neP (i := 1) (j := 2) (by decide) rfl rfl) (by omega) (fun f hf => Nat.le_trans (hfo2 f hf) (by decide))) ?_
                    rintro e w393 ⟨v393, pp393, cc393, rfl, hp393, hd393⟩
                    have hd393 := hd393.cast (fun b h => m386.freeC (i := 1) (j := 2) (pt := 48) (e := 35) (mm := 3) (rows' := ((fl2).map flD)) h)
                    have m394 := m386.callP 1 2 (by decide) rfl rfl hp393
                    clear m386
                    have m395 := m394.dat 203 rfl hd393
                    clear m394
                    obtain ⟨p393, c393, hv393⟩ := hp393.2.1.shape
                    subst hv393
                    clear hp393 hd393
                    refine ⟨_, rfl, fun a396 ha396 => ?_⟩; clear ha392 a392
                    refine hK _ _ ?_; clear hK K
                    refine st_g ha396 rfl rfl rfl rfl (y_len ha396 rfl Try.underlying27) ?_
                    clear ha396 a396; intro a397 ha397
                    refine st_g ha397 rfl rfl rfl rfl (y_move ha397 rfl) ?_
                    clear ha397 a397; intro a398 ha398
                    refine st_g ha398 rfl rfl rfl rfl (y_neq ha398 rfl rfl) ?_
                    clear ha398 a398; intro a399 ha399
                    refine st_y ha399 rfl (y_pickF ha399 rfl rfl) ?_
                    clear ha399 a399; intro a400 ha400
                    refine wpList_nil ?_
                    refine hK47 _ _ ?_; clear hK47; try clear K47
                    refine bool_cases ha400 (t := 92) rfl (fun hb401 ha401 => ?_) (fun hb401 ha401 => ?_)
                    · exact absurd hb401 (by simp; first | (rw [if_pos (by omega)] at hcnt; omega) | (rw [if_neg (by omega)] at hcnt; omega))
                    clear ha400 hb401
                    refine wp_cond_false (ha401.ev (x := .tmp 92) rfl) ?_
                    refine wp_skip ?_
                    refine hK19 _ _ ?_; clear hK19; try clear K19
                    have ha402 : Has 93 [(1, _), (5, _), (8, _), (9, _), (51, _), (79, _)] a400 := ha401.only [1, 5, 8, 9, 51, 79]; clear ha401
                    refine wp_region_lit ?_
                    refine st_y ha402 rfl (y_move ha402 rfl) ?_
                    clear ha402 a400; intro a403 ha403
                    refine st_y ha403 rfl (y_add ha403 rfl rfl (r := ((k + 1 : Nat) : Int)) (by rw [IntWalk.i64_in _ (by omega)]; omega)) ?_
                    clear ha403 a403; intro a404 ha404
                    refine st_y ha404 rfl (y_assign ha404 rfl) ?_
                    clear ha404 a404; intro a405 ha405
                    refine wpList_nil ?_
                    show ∃ n', n' < _ ∧ _
                    have hlen : (fl2.length : Int) = (fl.length : Int) - 1 := by first | (rw [if_pos (by omega)] at hcnt; omega) | (rw [if_neg (by omega)] at hcnt; omega)
                    rw [← hlen] at ha405
                    exact ⟨picks.length - (k + 1), by omega, k + 1, fl2, _, _, _, _, _, by omega, rfl, by omega, hfo2, ha405.only [1, 5, 8, 9], m395.only [1, 2, 3]⟩
                  · skip
                    clear ha379
                    try simp only [decide_eq_true_eq, decide_eq_false_iff_not, Bool.not_eq_true, Bool.not_eq_false, Bool.not_eq_eq_eq_not, Bool.not_true, Bool.not_false, Bool.not_not, Int.not_lt, Int.not_le, ne_eq, Decidable.not_not] at hb380
                    refine wp_cond_false (ha380.ev (x := .tmp 79) rfl) ?_
                    refine wp_skip ?_
                    refine hK45 _ _ ?_; clear hK45; try clear K45
                    refine wp_seq_k (fun K48 hK48 => ?_)
                    refine wp_region_lit ?_
                    refine st_y ha380 rfl (y_move ha380 rfl) ?_
                    clear ha380 a379; intro a406 ha406
                    refine wpList_plain rfl (fun K hK => ?_)
                    refine e_call ha406 Try.func15 rfl rfl rfl rfl (len_any _ _ _ _ _ (m352.ok 1 _ rfl : Res.ok _ _ _ _ (.box _ _ _)).1) ?_
                    rintro e w407 ⟨rfl, hb407⟩
                    have m408 := m352.later hb407
                    clear m352
                    clear hb407
                    refine ⟨_, rfl, fun a409 ha409 => ?_⟩; clear ha406 a406
                    refine hK _ _ ?_; clear hK K
                    refine st_y ha409 rfl (y_move ha409 rfl) ?_
                    clear ha409 a409; intro a410 ha410
                    refine st_y ha410 rfl (y_neq ha410 rfl rfl) ?_
                    clear ha410 a410; intro a411 ha411
                    refine st_y ha411 rfl (y_move ha411 rfl) ?_
                    clear ha411 a411; intro a412 ha412
                    refine bool_cases ha412 (t := 86) rfl (fun hb413 ha413 => ?_) (fun hb413 ha413 => ?_)
                    · exact absurd hb413 (by simp; first | (rw [if_pos (by omega)] at hcnt; omega) | (rw [if_neg (by omega)] at hcnt; omega))
                    clear ha412 hb413
                    refine st_g ha413 rfl rfl rfl rfl (y_move ha413 rfl) ?_
                    clear ha413 a412; intro a414 ha414
                    refine st_ge ha414 rfl rfl rfl rfl (fun K hK => ?_)
                    refine e_call ha414 Try.func16 rfl rfl rfl rfl (all_any _ _ _ (fl2) _ (m408.ok 1 _ rfl : Res.ok _ _ _ _ (.box _ _ _)).1 (m408.segP (i := 1) (j := 2) rfl rfl) (m408.neP (i := 1) (j := 2) (by decide) rfl rfl) (by omega) (fun f hf => Nat.le_trans (hfo2 f hf) (by decide))) ?_
                    rintro e w415 ⟨v415, pp415, cc415, rfl, hp415, hd415⟩
                    have hd415 := hd415.cast (fun b h => m408.freeC (i := 1) (j := 2) (pt := 48) (e := 35) (mm := 3) (rows' := ((fl2).map flD)) h)
                    have m416 := m408.callP 1 2 (by decide) rfl rfl hp415
                    clear m408
                    have m417 := m416.dat 203 rfl hd415
                    clear m416
                    obtain ⟨p415, c415, hv415⟩ := hp415.2.1.shape
                    subst hv415
                    clear hp415 hd415
                    refine ⟨_, rfl, fun a418 ha418 => ?_⟩; clear ha414 a414
                    refine hK _ _ ?_; clear hK K
                    refine st_g ha418 rfl rfl rfl rfl (y_len ha418 rfl Try.underlying27) ?_
                    clear ha418 a418; intro a419 ha419
                    refine st_g ha419 rfl rfl rfl rfl (y_move ha419 rfl) ?_
                    clear ha419 a419; intro a420 ha420
                    refine st_g ha420 rfl rfl rfl rfl (y_neq ha420 rfl rfl) ?_
                    clear ha420 a420; intro a421 ha421
                    refine st_y ha421 rfl (y_pickF ha421 rfl rfl) ?_
                    clear ha421 a421; intro a422 ha422
                    refine wpList_nil ?_
                    refine hK48 _ _ ?_; clear hK48; try clear K48
                    refine bool_cases ha422 (t := 92) rfl (fun hb423 ha423 => ?_) (fun hb423 ha423 => ?_)
                    · exact absurd hb423 (by simp; first | (rw [if_pos (by omega)] at hcnt; omega) | (rw [if_neg (by omega)] at hcnt; omega))
                    clear ha422 hb423
                    refine wp_cond_false (ha423.ev (x := .tmp 92) rfl) ?_
                    refine wp_skip ?_
                    refine hK19 _ _ ?_; clear hK19; try clear K19
                    have ha424 : Has 93 [(1, _), (5, _), (8, _), (9, _), (51, _), (79, _)] a422 := ha423.only [1, 5, 8, 9, 51, 79]; clear ha423
                    refine wp_region_lit ?_
                    refine st_y ha424 rfl (y_move ha424 rfl) ?_
                    clear ha424 a422; intro a425 ha425
                    refine st_y ha425 rfl (y_add ha425 rfl rfl (r := ((k + 1 : Nat) : Int)) (by rw [IntWalk.i64_in _ (by omega)]; omega)) ?_
                    clear ha425 a425; intro a426 ha426
                    refine st_y ha426 rfl (y_assign ha426 rfl) ?_
                    clear ha426 a426; intro a427 ha427
                    refine wpList_nil ?_
                    show ∃ n', n' < _ ∧ _
                    have hlen : (fl2.length : Int) = (fl.length : Int) := by first | (rw [if_pos (by omega)] at hcnt; omega) | (rw [if_neg (by omega)] at hcnt; omega)
                    rw [← hlen] at ha427
                    exact ⟨picks.length - (k + 1), by omega, k + 1, fl2, _, _, _, _, _, by omega, rfl, by omega, hfo2, ha427.only [1, 5, 8, 9], m417.only [1, 2, 3]⟩
                · skip
                  clear ha369
                  try simp only [decide_eq_true_eq, decide_eq_false_iff_not, Bool.not_eq_true, Bool.not_eq_false, Bool.not_eq_eq_eq_not, Bool.not_true, Bool.not_false, Bool.not_not, Int.not_lt, Int.not_le, ne_eq, Decidable.not_not] at hb370
                  refine st_skip ha370 rfl rfl rfl rfl ?_
                  clear ha370 a369; intro a428 ha428
                  refine st_skip ha428 rfl rfl rfl rfl ?_
                  clear ha428 a428; intro a429 ha429
                  refine st_skip ha429 rfl rfl rfl rfl ?_
                  clear ha429 a429; intro a430 ha430
                  refine st_skip ha430 rfl rfl rfl rfl ?_
                  clear ha430 a430; intro a431 ha431
                  refine st_g ha431 rfl rfl rfl rfl (y_pickF ha431 rfl rfl) ?_
                  clear ha431 a431; intro a432 ha432
                  refine st_y ha432 rfl (y_pickF ha432 rfl rfl) ?_
                  clear ha432 a432; intro a433 ha433
                  refine wpList_nil ?_
                  refine hK44 _ _ ?_; clear hK44; try clear K44
                  refine wp_cond_false (ha433.ev (x := .tmp 78) rfl) ?_
                  refine wp_skip ?_
                  refine hK43 _ _ ?_; clear hK43; try clear K43
                  refine wp_seq_k (fun K49 hK49 => ?_)
                  refine wp_seq_k (fun K50 hK50 => ?_)
                  have ha434 : Has 93 [(1, _), (5, _), (8, _), (9, _), (51, _), (12, _)] a433 := ha433.only [1, 5, 8, 9, 51, 12]; clear ha433
                  refine wp_region_lit ?_
                  refine st_y ha434 rfl (y_move ha434 rfl) ?_
                  clear ha434 a433; intro a435 ha435
                  refine wpList_nil ?_
                  refine hK50 _ _ ?_; clear hK50; try clear K50
                  refine bool_cases ha435 (t := 79) rfl (fun hb436 ha436 => ?_) (fun hb436 ha436 => ?_)
                  · skip
                    clear ha435
                    try simp only [decide_eq_true_eq, decide_eq_false_iff_not, Bool.not_eq_true, Bool.not_eq_false, Bool.not_eq_eq_eq_not, Bool.not_true, Bool.not_false, Bool.not_not, Int.not_lt, Int.not_le, ne_eq, Decidable.not_not] at hb436
                    refine wp_cond_true (ha436.ev (x := .tmp 79) rfl) ?_
                    refine wp_region_lit ?_
                    refine st_y ha436 rfl (y_move ha436 rfl) ?_
                    clear ha436 a435; intro a437 ha437
                    refine st_y ha437 rfl (y_sub ha437 rfl rfl (r := (fl.length : Int) - 1) (IntWalk.i64_in _ (by omega))) ?_
                    clear ha437 a437; intro a438 ha438
                    refine st_y ha438 rfl (y_assign ha438 rfl) ?_
                    clear ha438 a438; intro a439 ha439
                    refine wpList_nil ?_
                    refine hK49 _ _ ?_; clear hK49; try clear K49
                    refine wp_seq_k (fun K51 hK51 => ?_)
                    refine wp_region_lit ?_
                    refine st_y ha439 rfl (y_move ha439 rfl) ?_
                    clear ha439 a439; intro a440 ha440
                    refine wpList_plain rfl (fun K hK => ?_)
                    refine e_call ha440 Try.func15 rfl rfl rfl rfl (len_any _ _ _ _ _ (m352.ok 1 _ rfl : Res.ok _ _ _ _ (.box _ _ _)).1) ?_
                    rintro e w441 ⟨rfl, hb441⟩
                    have m442 := m352.later hb441
                    clear m352
                    clear hb441
                    refine ⟨_, rfl, fun a443 ha443 => ?_⟩; clear ha440 a440
                    refine hK _ _ ?_; clear hK K
                    refine st_y ha443 rfl (y_move ha443 rfl) ?_
                    clear ha443 a443; intro a444 ha444
                    refine st_y ha444 rfl (y_neq ha444 rfl rfl) ?_
                    clear ha444 a444; intro a445 ha445
                    refine st_y ha445 rfl (y_move ha445 rfl) ?_
                    clear ha445 a445; intro a446 ha446
                    refine bool_cases ha446 (t := 86) rfl (fun hb447 ha447 => ?_) (fun hb447 ha447 => ?_)
                    · exact absurd hb447 (by simp; first | (rw [if_pos (by omega)] at hcnt; omega) | (rw [if_neg (by omega)] at hcnt; omega))
                    clear ha446 hb447
                    refine st_g ha447 rfl rfl rfl rfl (y_move ha447 rfl) ?_
                    clear ha447 a446; intro a448 ha448
                    refine st_ge ha448 rfl rfl rfl rfl (fun K hK => ?_)
                    refine e_call ha448 Try.func16 rfl rfl rfl rfl (all_any _ _ _ (fl2) _ (m442.ok 1 _ rfl : Res.ok _ _ _ _ (.box _ _ _)).1 (m442.segP (i := 1) (j := 2) rfl rfl) (m442.neP (i := 1) (j := 2) (by decide) rfl rfl) (by omega) (fun f hf => Nat.le_trans (hfo2 f hf) (by decide))) ?_
                    rintro e w449 ⟨v449, pp449, cc449, rfl, hp449, hd449⟩
                    have hd449 := hd449.cast (fun b h => m442.freeC (i := 1) (j := 2) (pt := 48) (e := 35) (mm := 3) (rows' := ((fl2).map flD)) h)
                    have m450 := m442.callP 1 2 (by decide) rfl rfl hp449
                    clear m442
                    have m451 := m450.dat 203 rfl hd449
                    clear m450
                    obtain ⟨p449, c449, hv449⟩ := hp449.2.1.shape
                    subst hv449
                    clear hp449 hd449
                    refine ⟨_, rfl, fun a452 ha452 => ?_⟩; clear ha448 a448
                    refine hK _ _ ?_; clear hK K
                    refine st_g ha452 rfl rfl rfl rfl (y_len ha452 rfl Try.underlying27) ?_
                    clear ha452 a452; intro a453 ha453
                    refine st_g ha453 rfl rfl rfl rfl (y_move ha453 rfl) ?_
                    clear ha453 a453; intro a454 ha454
                    refine st_g ha454 rfl rfl rfl rfl (y_neq ha454 rfl rfl) ?_
                    clear ha454 a454; intro a455 ha455
                    refine st_y ha455 rfl (y_pickF ha455 rfl rfl) ?_
                    clear ha455 a455; intro a456 ha456
                    refine wpList_nil ?_
                    refine hK51 _ _ ?_; clear hK51; try clear K51
                    refine bool_cases ha456 (t := 92) rfl (fun hb457 ha457 => ?_) (fun hb457 ha457 => ?_)
                    · exact absurd hb457 (by simp; first | (rw [if_pos (by omega)] at hcnt; omega) | (rw [if_neg (by omega)] at hcnt; omega))
                    clear ha456 hb457
                    refine wp_cond_false (ha457.ev (x := .tmp 92) rfl) ?_
                    refine wp_skip ?_
                    refine hK19 _ _ ?_; clear hK19; try clear K19
                    have ha458 : Has 93 [(1, _), (5, _), (8, _), (9, _), (51, _), (79, _)] a456 := ha457.only [1, 5, 8, 9, 51, 79]; clear ha457
                    refine wp_region_lit ?_
                    refine st_y ha458 rfl (y_move ha458 rfl) ?_
                    clear ha458 a456; intro a459 ha459
                    refine st_y ha459 rfl (y_add ha459 rfl rfl (r := ((k + 1 : Nat) : Int)) (by rw [IntWalk.i64_in _ (by omega)]; omega)) ?_
                    clear ha459 a459; intro a460 ha460
                    refine st_y ha460 rfl (y_assign ha460 rfl) ?_
                    clear ha460 a460; intro a461 ha461
                    refine wpList_nil ?_
                    show ∃ n', n' < _ ∧ _
                    have hlen : (fl2.length : Int) = (fl.length : Int) - 1 := by first | (rw [if_pos (by omega)] at hcnt; omega) | (rw [if_neg (by omega)] at hcnt; omega)
                    rw [← hlen] at ha461
                    exact ⟨picks.length - (k + 1), by omega, k + 1, fl2, _, _, _, _, _, by omega, rfl, by omega, hfo2, ha461.only [1, 5, 8, 9], m451.only [1, 2, 3]⟩
                  · skip
                    clear ha435
                    try simp only [decide_eq_true_eq, decide_eq_false_iff_not, Bool.not_eq_true, Bool.not_eq_false, Bool.not_eq_eq_eq_not, Bool.not_true, Bool.not_false, Bool.not_not, Int.not_lt, Int.not_le, ne_eq, Decidable.not_not] at hb436
                    refine wp_cond_false (ha436.ev (x := .tmp 79) rfl) ?_
                    refine wp_skip ?_
                    refine hK49 _ _ ?_; clear hK49; try clear K49
                    refine wp_seq_k (fun K52 hK52 => ?_)
                    refine wp_region_lit ?_
                    refine st_y ha436 rfl (y_move ha436 rfl) ?_
                    clear ha436 a435; intro a462 ha462
                    refine wpList_plain rfl (fun K hK => ?_)
                    refine e_call ha462 Try.func15 rfl rfl rfl rfl (len_any _ _ _ _ _ (m352.ok 1 _ rfl : Res.ok _ _ _ _ (.box _ _ _)).1) ?_
                    rintro e w463 ⟨rfl, hb463⟩
                    have m464 := m352.later hb463
                    clear m352
                    clear hb463
                    refine ⟨_, rfl, fun a465 ha465 => ?_⟩; clear ha462 a462
                    refine hK _ _ ?_; clear hK K
                    refine st_y ha465 rfl (y_move ha465 rfl) ?_
                    clear ha465 a465; intro a466 ha466
                    refine st_y ha466 rfl (y_neq ha466 rfl rfl) ?_
                    clear ha466 a466; intro a467 ha467
                    refine st_y ha467 rfl (y_move ha467 rfl) ?_
                    clear ha467 a467; intro a468 ha468
                    refine bool_cases ha468 (t := 86) rfl (fun hb469 ha469 => ?_) (fun hb469 ha469 => ?_)
                    · exact absurd hb469 (by simp; first | (rw [if_pos (by omega)] at hcnt; omega) | (rw [if_neg (by omega)] at hcnt; omega))
                    clear ha468 hb469
                    refine st_g ha469 rfl rfl rfl rfl (y_move ha469 rfl) ?_
                    clear ha469 a468; intro a470 ha470
                    refine st_ge ha470 rfl rfl rfl rfl (fun K hK => ?_)
                    refine e_call ha470 Try.func16 rfl rfl rfl rfl (all_any _ _ _ (fl2) _ (m464.ok 1 _ rfl : Res.ok _ _ _ _ (.box _ _ _)).1 (m464.segP (i := 1) (j := 2) rfl rfl) (m464.neP (i := 1) (j := 2) (by decide) rfl rfl) (by omega) (fun f hf => Nat.le_trans (hfo2 f hf) (by decide))) ?_
                    rintro e w471 ⟨v471, pp471, cc471, rfl, hp471, hd471⟩
                    have hd471 := hd471.cast (fun b h => m464.freeC (i := 1) (j := 2) (pt := 48) (e := 35) (mm := 3) (rows' := ((fl2).map flD)) h)
                    have m472 := m464.callP 1 2 (by decide) rfl rfl hp471
                    clear m464
                    have m473 := m472.dat 203 rfl hd471
                    clear m472
                    obtain ⟨p471, c471, hv471⟩ := hp471.2.1.shape
                    subst hv471
                    clear hp471 hd471
                    refine ⟨_, rfl, fun a474 ha474 => ?_⟩; clear ha470 a470
                    refine hK _ _ ?_; clear hK K
                    refine st_g ha474 rfl rfl rfl rfl (y_len ha474 rfl Try.underlying27) ?_
                    clear ha474 a474; intro a475 ha475
                    refine st_g ha475 rfl rfl rfl rfl (y_move ha475 rfl) ?_
                    clear ha475 a475; intro a476 ha476
                    refine st_g ha476 rfl rfl rfl rfl (y_neq ha476 rfl rfl) ?_
                    clear ha476 a476; intro a477 ha477
                    refine st_y ha477 rfl (y_pickF ha477 rfl rfl) ?_
                    clear ha477 a477; intro a478 ha478
                    refine wpList_nil ?_
                    refine hK52 _ _ ?_; clear hK52; try clear K52
                    refine bool_cases ha478 (t := 92) rfl (fun hb479 ha479 => ?_) (fun hb479 ha479 => ?_)
                    · exact absurd hb479 (by simp; first | (rw [if_pos (by omega)] at hcnt; omega) | (rw [if_neg (by omega)] at hcnt; omega))
                    clear ha478 hb479
                    refine wp_cond_false (ha479.ev (x := .tmp 92) rfl) ?_
                    refine wp_skip ?_
                    refine hK19 _ _ ?_; clear hK19; try clear K19
                    have ha480 : Has 93 [(1, _), (5, _), (8, _), (9, _), (51, _), (79, _)] a478 := ha479.only [1, 5, 8, 9, 51, 79]; clear ha479
                    refine wp_region_lit ?_
                    refine st_y ha480 rfl (y_move ha480 rfl) ?_
                    clear ha480 a478; intro a481 ha481
                    refine st_y ha481 rfl (y_add ha481 rfl rfl (r := ((k + 1 : Nat) : Int)) (by rw [IntWalk.i64_in _ (by omega)]; omega)) ?_
                    clear ha481 a481; intro a482 ha482
                    refine st_y ha482 rfl (y_assign ha482 rfl) ?_
                    clear ha482 a482; intro a483 ha483
                    refine wpList_nil ?_
                    show ∃ n', n' < _ ∧ _
                    have hlen : (fl2.length : Int) = (fl.length : Int) := by first | (rw [if_pos (by omega)] at hcnt; omega) | (rw [if_neg (by omega)] at hcnt; omega)
                    rw [← hlen] at ha483
                    exact ⟨picks.length - (k + 1), by omega, k + 1, fl2, _, _, _, _, _, by omega, rfl, by omega, hfo2, ha483.only [1, 5, 8, 9], m473.only [1, 2, 3]⟩
              · skip
                clear ha358
                try simp only [decide_eq_true_eq, decide_eq_false_iff_not, Bool.not_eq_true, Bool.not_eq_false, Bool.not_eq_eq_eq_not, Bool.not_true, Bool.not_false, Bool.not_not, Int.not_lt, Int.not_le, ne_eq, Decidable.not_not] at hb359
                refine st_skip ha359 rfl rfl rfl rfl ?_
                clear ha359 a358; intro a484 ha484
                refine st_skip ha484 rfl rfl rfl rfl ?_
                clear ha484 a484; intro a485 ha485
                refine st_skip ha485 rfl rfl rfl rfl ?_
                clear ha485 a485; intro a486 ha486
                refine st_y ha486 rfl (y_pickF ha486 rfl rfl) ?_
                clear ha486 a486; intro a487 ha487
                refine st_y ha487 rfl (y_neqB ha487 rfl rfl Try.underlying4) ?_
                clear ha487 a487; intro a488 ha488
                refine st_y ha488 rfl (y_move ha488 rfl) ?_
                clear ha488 a488; intro a489 ha489
                refine bool_cases ha489 (t := 69) rfl (fun hb490 ha490 => ?_) (fun hb490 ha490 => ?_)
                · exact absurd hb490 (cnt_f hb359)
                clear ha489 hb490
                refine st_g ha490 rfl rfl rfl rfl (y_move ha490 rfl) ?_
                clear ha490 a489; intro a491 ha491
                refine st_g ha491 rfl rfl rfl rfl (y_not ha491 rfl) ?_
                clear ha491 a491; intro a492 ha492
                refine st_g ha492 rfl rfl rfl rfl (y_move ha492 rfl) ?_
                clear ha492 a492; intro a493 ha493
                refine bool_cases ha493 (t := 72) rfl (fun hb494 ha494 => ?_) (fun hb494 ha494 => ?_)
                · skip
                  clear ha493
                  try simp only [decide_eq_true_eq, decide_eq_false_iff_not, Bool.not_eq_true, Bool.not_eq_false, Bool.not_eq_eq_eq_not, Bool.not_true, Bool.not_false, Bool.not_not, Int.not_lt, Int.not_le, ne_eq, Decidable.not_not] at hb494
                  have hf0 := hemp (by first | exact hb494 | (simp at hb494; omega))
                  refine st_g ha494 rfl rfl rfl rfl (y_fieldAddr ha494 (off := 2) rfl Try.underlying35 rfl (s := 0) (by kernel_rfl) rfl) ?_
                  clear ha494 a493; intro a495 ha495
                  refine st_g ha495 rfl rfl rfl rfl (y_loadB1 ha495 m352 (i := 202) rfl rfl rfl Try.underlying33 rfl) ?_
                  clear ha495 a495; intro a496 ha496
                  refine st_g ha496 rfl rfl rfl rfl (y_len ha496 rfl Try.underlying33) ?_
                  clear ha496 a496; intro a497 ha497
                  refine st_g ha497 rfl rfl rfl rfl (y_neq ha497 rfl rfl) ?_
                  clear ha497 a497; intro a498 ha498
                  refine st_g ha498 rfl rfl rfl rfl (y_pickT ha498 rfl rfl) ?_
                  clear ha498 a498; intro a499 ha499
                  refine st_y ha499 rfl (y_pickF ha499 rfl rfl) ?_
                  clear ha499 a499; intro a500 ha500
                  refine wpList_nil ?_
                  refine hK44 _ _ ?_; clear hK44; try clear K44
                  refine bool_cases ha500 (t := 78) rfl (fun hb501 ha501 => ?_) (fun hb501 ha501 => ?_)
                  · exact absurd hb501 (by simp [hf0])
                  clear ha500 hb501
                  refine wp_cond_false (ha501.ev (x := .tmp 78) rfl) ?_
                  refine wp_skip ?_
                  refine hK43 _ _ ?_; clear hK43; try clear K43
                  refine wp_seq_k (fun K53 hK53 => ?_)
                  refine wp_seq_k (fun K54 hK54 => ?_)
                  have ha502 : Has 93 [(1, _), (5, _), (8, _), (9, _), (51, _), (12, _)] a500 := ha501.only [1, 5, 8, 9, 51, 12]; clear ha501
                  refine wp_region_lit ?_
                  refine st_y ha502 rfl (y_move ha502 rfl) ?_
                  clear ha502 a500; intro a503 ha503
                  refine wpList_nil ?_
                  refine hK54 _ _ ?_; clear hK54; try clear K54
                  refine bool_cases ha503 (t := 79) rfl (fun hb504 ha504 => ?_) (fun hb504 ha504 => ?_)
                  · skip
                    clear ha503
                    try simp only [decide_eq_true_eq, decide_eq_false_iff_not, Bool.not_eq_true, Bool.not_eq_false, Bool.not_eq_eq_eq_not, Bool.not_true, Bool.not_false, Bool.not_not, Int.not_lt, Int.not_le, ne_eq, Decidable.not_not] at hb504
                    refine wp_cond_true (ha504.ev (x := .tmp 79) rfl) ?_
                    refine wp_region_lit ?_
                    refine st_y ha504 rfl (y_move ha504 rfl) ?_
                    clear ha504 a503; intro a505 ha505
                    refine st_y ha505 rfl (y_sub ha505 rfl rfl (r := (fl.length : Int) - 1) (IntWalk.i64_in _ (by omega))) ?_
                    clear ha505 a505; intro a506 ha506
                    refine st_y ha506 rfl (y_assign ha506 rfl) ?_
                    clear ha506 a506; intro a507 ha507
                    refine wpList_nil ?_
                    refine hK53 _ _ ?_; clear hK53; try clear K53
                    refine wp_seq_k (fun K55 hK55 => ?_)
                    refine wp_region_lit ?_
                    refine st_y ha507 rfl (y_move ha507 rfl) ?_
                    clear ha507 a507; intro a508 ha508
                    refine wpList_plain rfl (fun K hK => ?_)
                    refine e_call ha508 Try.func15 rfl rfl rfl rfl (len_any _ _ _ _ _ (m352.ok 1 _ rfl : Res.ok _ _ _ _ (.box _ _ _)).1) ?_
                    rintro e w509 ⟨rfl, hb509⟩
                    have m510 := m352.later hb509
                    clear m352
                    clear hb509
                    refine ⟨_, rfl, fun a511 ha511 => ?_⟩; clear ha508 a508
                    refine hK _ _ ?_; clear hK K
                    refine st_y ha511 rfl (y_move ha511 rfl) ?_
                    clear ha511 a511; intro a512 ha512
                    refine st_y ha512 rfl (y_neq ha512 rfl rfl) ?_
                    clear ha512 a512; intro a513 ha513
                    refine st_y ha513 rfl (y_move ha513 rfl) ?_
                    clear ha513 a513; intro a514 ha514
                    refine bool_cases ha514 (t := 86) rfl (fun hb515 ha515 => ?_) (fun hb515 ha515 => ?_)
                    · exact absurd hb515 (by simp; first | (rw [if_pos (by omega)] at hcnt; omega) | (rw [if_neg (by omega)] at hcnt; omega))
                    clear ha514 hb515
                    refine st_g ha515 rfl rfl rfl rfl (y_move ha515 rfl) ?_
                    clear ha515 a514; intro a516 ha516
                    refine st_ge ha516 rfl rfl rfl rfl (fun K hK => ?_)
                    refine e_call ha516 Try.func16 rfl rfl rfl rfl (all_any _ _ _ (fl2) _ (m510.ok 1 _ rfl : Res.ok _ _ _ _ (.box _ _ _)).1 (m510.segP (i := 1) (j := 2) rfl rfl) (m510.neP (i := 1) (j := 2) (by decide) rfl rfl) (by omega) (fun f hf => Nat.le_trans (hfo2 f hf) (by decide))) ?_
                    rintro e w517 ⟨v517, pp517, cc517, rfl, hp517, hd517⟩
                    have hd517 := hd517.cast (fun b h => m510.freeC (i := 1) (j := 2) (pt := 48) (e := 35) (mm := 3) (rows' := ((fl2).map flD)) h)
                    have m518 := m510.callP 1 2 (by decide) rfl rfl hp517
                    clear m510
                    have m519 := m518.dat 203 rfl hd517
                    clear m518
                    obtain ⟨p517, c517, hv517⟩ := hp517.2.1.shape
                    subst hv517
                    clear hp517 hd517
                    refine ⟨_, rfl, fun a520 ha520 => ?_⟩; clear ha516 a516
                    refine hK _ _ ?_; clear hK K
                    refine st_g ha520 rfl rfl rfl rfl (y_len ha520 rfl Try.underlying27) ?_
                    clear ha520 a520; intro a521 ha521
                    refine st_g ha521 rfl rfl rfl rfl (y_move ha521 rfl) ?_
                    clear ha521 a521; intro a522 ha522
                    refine st_g ha522 rfl rfl rfl rfl (y_neq ha522 rfl rfl) ?_
                    clear ha522 a522; intro a523 ha523
                    refine st_y ha523 rfl (y_pickF ha523 rfl rfl) ?_
                    clear ha523 a523; intro a524 ha524
                    refine wpList_nil ?_
                    refine hK55 _ _ ?_; clear hK55; try clear K55
                    refine bool_cases ha524 (t := 92) rfl (fun hb525 ha525 => ?_) (fun hb525 ha525 => ?_)
                    · exact absurd hb525 (by simp; first | (rw [if_pos (by omega)] at hcnt; omega) | (rw [if_neg (by omega)] at hcnt; omega))
                    clear ha524 hb525
                    refine wp_cond_false (ha525.ev (x := .tmp 92) rfl) ?_
                    refine wp_skip ?_
                    refine hK19 _ _ ?_; clear hK19; try clear K19
                    have ha526 : Has 93 [(1, _), (5, _), (8, _), (9, _), (51, _), (79, _)] a524 := ha525.only [1, 5, 8, 9, 51, 79]; clear ha525
                    refine wp_region_lit ?_
                    refine st_y ha526 rfl (y_move ha526 rfl) ?_
                    clear ha526 a524; intro a527 ha527
                    refine st_y ha527 rfl (y_add ha527 rfl rfl (r := ((k + 1 : Nat) : Int)) (by rw [IntWalk.i64_in _ (by omega)]; omega)) ?_
                    clear ha527 a527; intro a528 ha528
                    refine st_y ha528 rfl (y_assign ha528 rfl) ?_
                    clear ha528 a528; intro a529 ha529
                    refine wpList_nil ?_
                    show ∃ n', n' < _ ∧ _
                    have hlen : (fl2.length : Int) = (fl.length : Int) - 1 := by first | (rw [if_pos (by omega)] at hcnt; omega) | (rw [if_neg (by omega)] at hcnt; omega)
                    rw [← hlen] at ha529
                    exact ⟨picks.length - (k + 1), by omega, k + 1, fl2, _, _, _, _, _, by omega, rfl, by omega, hfo2, ha529.only [1, 5, 8, 9], m519.only [1, 2, 3]⟩
                  · skip
                    clear ha503
                    try simp only [decide_eq_true_eq, decide_eq_false_iff_not, Bool.not_eq_true, Bool.not_eq_false, Bool.not_eq_eq_eq_not, Bool.not_true, Bool.not_false, Bool.not_not, Int.not_lt, Int.not_le, ne_eq, Decidable.not_not] at hb504
                    refine wp_cond_false (ha504.ev (x := .tmp 79) rfl) ?_
                    refine wp_skip ?_
                    refine hK53 _ _ ?_; clear hK53; try clear K53
                    refine wp_seq_k (fun K56 hK56 => ?_)
                    refine wp_region_lit ?_
                    refine st_y ha504 rfl (y_move ha504 rfl) ?_
                    clear ha504 a503; intro a530 ha530
                    refine wpList_plain rfl (fun K hK => ?_)
                    refine e_call ha530 Try.func15 rfl rfl rfl rfl (len_any _ _ _ _ _ (m352.ok 1 _ rfl : Res.ok _ _ _ _ (.box _ _ _)).1) ?_
                    rintro e w531 ⟨rfl, hb531⟩
                    have m532 := m352.later hb531
                    clear m352
                    clear hb531
                    refine ⟨_, rfl, fun a533 ha533 => ?_⟩; clear ha530 a530
                    refine hK _ _ ?_; clear hK K
                    refine st_y ha533 rfl (y_move ha533 rfl) ?_
                    clear ha533 a533; intro a534 ha534
                    refine st_y ha534 rfl (y_neq ha534 rfl rfl) ?_
                    clear ha534 a534; intro a535 ha535
                    refine st_y ha535 rfl (y_move ha535 rfl) ?_
                    clear ha535 a535; intro a536 ha536
                    refine bool_cases ha536 (t := 86) rfl (fun hb537 ha537 => ?_) (fun hb537 ha537 => ?_)
                    · exact absurd hb537 (by simp; first | (rw [if_pos (by omega)] at hcnt; omega) | (rw [if_neg (by omega)] at hcnt; omega))
                    clear ha536 hb537
                    refine st_g ha537 rfl rfl rfl rfl (y_move ha537 rfl) ?_
                    clear ha537 a536; intro a538 ha538
                    refine st_ge ha538 rfl rfl rfl rfl (fun K hK => ?_)
                    refine e_call ha538 Try.func16 rfl rfl rfl rfl (all_any _ _ _ (fl2) _ (m532.ok 1 _ rfl : Res.ok _ _ _ _ (.box _ _ _)).1 (m532.segP (i := 1) (j := 2) rfl rfl) (m532.neP (i := 1) (j := 2) (by decide) rfl rfl) (by omega) (fun f hf => Nat.le_trans (hfo2 f hf) (by decide))) ?_
                    rintro e w539 ⟨v539, pp539, cc539, rfl, hp539, hd539⟩
                    have hd539 := hd539.cast (fun b h => m532.freeC (i := 1) (j := 2) (pt := 48) (e := 35) (mm := 3) (rows' := ((fl2).map flD)) h)
                    have m540 := m532.callP 1 2 (by decide) rfl rfl hp539
                    clear m532
                    have m541 := m540.dat 203 rfl hd539
                    clear m540
                    obtain ⟨p539, c539, hv539⟩ := hp539.2.1.shape
                    subst hv539
                    clear hp539 hd539
                    refine ⟨_, rfl, fun a542 ha542 => ?_⟩; clear ha538 a538
                    refine hK _ _ ?_; clear hK K
                    refine st_g ha542 rfl rfl rfl rfl (y_len ha542 rfl Try.underlying27) ?_
                    clear ha542 a542; intro a543 ha543
                    refine st_g ha543 rfl rfl rfl rfl (y_move ha543 rfl) ?_
                    clear ha543 a543; intro a544 ha544
                    refine st_g ha544 rfl rfl rfl rfl (y_neq ha544 rfl rfl) ?_
                    clear ha544 a544; intro a545 ha545
                    refine st_y ha545 rfl (y_pickF ha545 rfl rfl) ?_
                    clear ha545 a545; intro a546 ha546
                    refine wpList_nil ?_
                    refine hK56 _ _ ?_; clear hK56; try clear K56
                    refine bool_cases ha546 (t := 92) rfl (fun hb547 ha547 => ?_) (fun hb547 ha547 => ?_)
                    · exact absurd hb547 (by simp; first | (rw [if_pos (by omega)] at hcnt; omega) | (rw [if_neg (by omega)] at hcnt; omega))
                    clear ha546 hb547
                    refine wp_cond_false (ha547.ev (x := .tmp 92) rfl) ?_
                    refine wp_skip ?_
                    refine hK19 _ _ ?_; clear hK19; try clear K19
                    have ha548 : Has 93 [(1, _), (5, _), (8, _), (9, _), (51, _), (79, _)] a546 := ha547.only [1, 5, 8, 9, 51, 79]; clear ha547
                    refine wp_region_lit ?_
                    refine st_y ha548 rfl (y_move ha548 rfl) ?_
                    clear ha548 a546; intro a549 ha549
                    refine st_y ha549 rfl (y_add ha549 rfl rfl (r := ((k + 1 : Nat) : Int)) (by rw [IntWalk.i64_in _ (by omega)]; omega)) ?_
                    clear ha549 a549; intro a550 ha550
                    refine st_y ha550 rfl (y_assign ha550 rfl) ?_
                    clear ha550 a550; intro a551 ha551
                    refine wpList_nil ?_
                    show ∃ n', n' < _ ∧ _
                    have hlen : (fl2.length : Int) = (fl.length : Int) := by first | (rw [if_pos (by omega)] at hcnt; omega) | (rw [if_neg (by omega)] at hcnt; omega)
                    rw [← hlen] at ha551
                    exact ⟨picks.length - (k + 1), by omega, k + 1, fl2, _, _, _, _, _, by omega, rfl, by omega, hfo2, ha551.only [1, 5, 8, 9], m541.only [1, 2, 3]⟩
                · skip
                  clear ha493
                  try simp only [decide_eq_true_eq, decide_eq_false_iff_not, Bool.not_eq_true, Bool.not_eq_false, Bool.not_eq_eq_eq_not, Bool.not_true, Bool.not_false, Bool.not_not, Int.not_lt, Int.not_le, ne_eq, Decidable.not_not] at hb494
                  refine st_skip ha494 rfl rfl rfl rfl ?_
                  clear ha494 a493; intro a552 ha552
                  refine st_skip ha552 rfl rfl rfl rfl ?_
                  clear ha552 a552; intro a553 ha553
                  refine st_skip ha553 rfl rfl rfl rfl ?_
                  clear ha553 a553; intro a554 ha554
                  refine st_skip ha554 rfl rfl rfl rfl ?_
                  clear ha554 a554; intro a555 ha555
                  refine st_g ha555 rfl rfl rfl rfl (y_pickF ha555 rfl rfl) ?_
                  clear ha555 a555; intro a556 ha556
                  refine st_y ha556 rfl (y_pickF ha556 rfl rfl) ?_
                  clear ha556 a556; intro a557 ha557
                  refine wpList_nil ?_
                  refine hK44 _ _ ?_; clear hK44; try clear K44
                  refine wp_cond_false (ha557.ev (x := .tmp 78) rfl) ?_
                  refine wp_skip ?_
                  refine hK43 _ _ ?_; clear hK43; try clear K43
                  refine wp_seq_k (fun K57 hK57 => ?_)
                  refine wp_seq_k (fun K58 hK58 => ?_)
                  have ha558 : Has 93 [(1, _), (5, _), (8, _), (9, _), (51, _), (12, _)] a557 := ha557.only [1, 5, 8, 9, 51, 12]; clear ha557
                  refine wp_region_lit ?_
                  refine st_y ha558 rfl (y_move ha558 rfl) ?_
                  clear ha558 a557; intro a559 ha559
                  refine wpList_nil ?_
                  refine hK58 _ _ ?_; clear hK58; try clear K58
                  refine bool_cases ha559 (t := 79) rfl (fun hb560 ha560 => ?_) (fun hb560 ha560 => ?_)
                  · skip
                    clear ha559
                    try simp only [decide_eq_true_eq, decide_eq_false_iff_not, Bool.not_eq_true, Bool.not_eq_false, Bool.not_eq_eq_eq_not, Bool.not_true, Bool.not_false, Bool.not_not, Int.not_lt, Int.not_le, ne_eq, Decidable.not_not] at hb560
                    refine wp_cond_true (ha560.ev (x := .tmp 79) rfl) ?_
                    refine wp_region_lit ?_
                    refine st_y ha560 rfl (y_move ha560 rfl) ?_
                    clear ha560 a559; intro a561 ha561
                    refine st_y ha561 rfl (y_sub ha561 rfl rfl (r := (fl.length : Int) - 1) (IntWalk.i64_in _ (by omega))) ?_
                    clear ha561 a561; intro a562 ha562
                    refine st_y ha562 rfl (y_assign ha562 rfl) ?_
                    clear ha562 a562; intro a563 ha563
                    refine wpList_nil ?_
                    refine hK57 _ _ ?_; clear hK57; try clear K57
                    refine wp_seq_k (fun K59 hK59 => ?_)
                    refine wp_region_lit ?_
                    refine st_y ha563 rfl (y_move ha563 rfl) ?_
                    clear ha563 a563; intro a564 ha564
                    refine wpList_plain rfl (fun K hK => ?_)
                    refine e_call ha564 Try.func15 rfl rfl rfl rfl (len_any _ _ _ _ _ (m352.ok 1 _ rfl : Res.ok _ _ _ _ (.box _ _ _)).1) ?_
                    rintro e w565 ⟨rfl, hb565⟩
                    have m566 := m352.later hb565
                    clear m352
                    clear hb565
                    refine ⟨_, rfl, fun a567 ha567 => ?_⟩; clear ha564 a564
                    refine hK _ _ ?_; clear hK K
                    refine st_y ha567 rfl (y_move ha567 rfl) ?_
                    clear ha567 a567; intro a568 ha568
                    refine st_y ha568 rfl (y_neq ha568 rfl rfl) ?_
                    clear ha568 a568; intro a569 ha569
                    refine st_y ha569 rfl (y_move ha569 rfl) ?_
                    clear ha569 a569; intro a570 ha570
                    refine bool_cases ha570 (t := 86) rfl (fun hb571 ha571 => ?_) (fun hb571 ha571 => ?_)
                    · exact absurd hb571 (by simp; first | (rw [if_pos (by omega)] at hcnt; omega) | (rw [if_neg (by omega)] at hcnt; omega))
                    clear ha570 hb571
                    refine st_g ha571 rfl rfl rfl rfl (y_move ha571 rfl) ?_
                    clear ha571 a570; intro a572 ha572
                    refine st_ge ha572 rfl rfl rfl rfl (fun K hK => ?_)
                    refine e_call ha572 Try.func16 rfl rfl rfl rfl (all_any _ _ _ (fl2) _ (m566.ok 1 _ rfl : Res.ok _ _ _ _ (.box _ _ _)).1 (m566.segP (i := 1) (j := 2) rfl rfl) (m566.neP (i := 1) (j := 2) (by decide) rfl rfl) (by omega) (fun f hf => Nat.le_trans (hfo2 f hf) (by decide))) ?_
                    rintro e w573 ⟨v573, pp573, cc573, rfl, hp573, hd573⟩
                    have hd573 := hd573.cast (fun b h => m566.freeC (i := 1) (j := 2) (pt := 48) (e := 35) (mm := 3) (rows' := ((fl2).map flD)) h)
                    have m574 := m566.callP 1 2 (by decide) rfl rfl hp573
                    clear m566
                    have m575 := m574.dat 203 rfl hd573
                    clear m574
                    obtain ⟨p573, c573, hv573⟩ := hp573.2.1.shape
                    subst hv573
                    clear hp573 hd573
                    refine ⟨_, rfl, fun a576 ha576 => ?_⟩; clear ha572 a572
                    refine hK _ _ ?_; clear hK K
                    refine st_g ha576 rfl rfl rfl rfl (y_len ha576 rfl Try.underlying27) ?_
                    clear ha576 a576; intro a577 ha577
                    refine st_g ha577 rfl rfl rfl rfl (y_move ha577 rfl) ?_
                    clear ha577 a577; intro a578 ha578
                    refine st_g ha578 rfl rfl rfl rfl (y_neq ha578 rfl rfl) ?_
                    clear ha578 a578; intro a579 ha579
                    refine st_y ha579 rfl (y_pickF ha579 rfl rfl) ?_
                    clear ha579 a579; intro a580 ha580
                    refine wpList_nil ?_
                    refine hK59 _ _ ?_; clear hK59; try clear K59
                    refine bool_cases ha580 (t := 92) rfl (fun hb581 ha581 => ?_) (fun hb581 ha581 => ?_)
                    · exact absurd hb581 (by simp; first | (rw [if_pos (by omega)] at hcnt; omega) | (rw [if_neg (by omega)] at hcnt; omega))
                    clear ha580 hb581
                    refine wp_cond_false (ha581.ev (x := .tmp 92) rfl) ?_
                    refine wp_skip ?_
                    refine hK19 _ _ ?_; clear hK19; try clear K19
                    have ha582 : Has 93 [(1, _), (5, _), (8, _), (9, _), (51, _), (79, _)] a580 := ha581.only [1, 5, 8, 9, 51, 79]; clear ha581
                    refine wp_region_lit ?_
                    refine st_y ha582 rfl (y_move ha582 rfl) ?_
                    clear ha582 a580; intro a583 ha583
                    refine st_y ha583 rfl (y_add ha583 rfl rfl (r := ((k + 1 : Nat) : Int)) (by rw [IntWalk.i64_in _ (by omega)]; omega)) ?_
                    clear ha583 a583; intro a584 ha584
                    refine st_y ha584 rfl (y_assign ha584 rfl) ?_
                    clear ha584 a584; intro a585 ha585
                    refine wpList_nil ?_
                    show ∃ n', n' < _ ∧ _
                    have hlen : (fl2.length : Int) = (fl.length : Int) - 1 := by first | (rw [if_pos (by omega)] at hcnt; omega) | (rw [if_neg (by omega)] at hcnt; omega)
                    rw [← hlen] at ha585
                    exact ⟨picks.length - (k + 1), by omega, k + 1, fl2, _, _, _, _, _, by omega, rfl, by omega, hfo2, ha585.only [1, 5, 8, 9], m575.only [1, 2, 3]⟩
                  · skip
                    clear ha559
                    try simp only [decide_eq_true_eq, decide_eq_false_iff_not, Bool.not_eq_true, Bool.not_eq_false, Bool.not_eq_eq_eq_not, Bool.not_true, Bool.not_false, Bool.not_not, Int.not_lt, Int.not_le, ne_eq, Decidable.not_not] at hb560
                    refine wp_cond_false (ha560.ev (x := .tmp 79) rfl) ?_
                    refine wp_skip ?_
                    refine hK57 _ _ ?_; clear hK57; try clear K57
                    refine wp_seq_k (fun K60 hK60 => ?_)
                    refine wp_region_lit ?_
                    refine st_y ha560 rfl (y_move ha560 rfl) ?_
                    clear ha560 a559; intro a586 ha586
                    refine wpList_plain rfl (fun K hK => ?_)
                    refine e_call ha586 Try.func15 rfl rfl rfl rfl (len_any _ _ _ _ _ (m352.ok 1 _ rfl : Res.ok _ _ _ _ (.box _ _ _)).1) ?_
                    rintro e w587 ⟨rfl, hb587⟩
                    have m588 := m352.later hb587
                    clear m352
                    clear hb587
                    refine ⟨_, rfl, fun a589 ha589 => ?_⟩; clear ha586 a586
                    refine hK _ _ ?_; clear hK K
                    refine st_y ha589 rfl (y_move ha589 rfl) ?_
                    clear ha589 a589; intro a590 ha590
                    refine st_y ha590 rfl (y_neq ha590 rfl rfl) ?_
                    clear ha590 a590; intro a591 ha591
                    refine st_y ha591 rfl (y_move ha591 rfl) ?_
                    clear ha591 a591; intro a592 ha592
                    refine bool_cases ha592 (t := 86) rfl (fun hb593 ha593 => ?_) (fun hb593 ha593 => ?_)
                    · exact absurd hb593 (by simp; first | (rw [if_pos (by omega)] at hcnt; omega) | (rw [if_neg (by omega)] at hcnt; omega))
                    clear ha592 hb593
                    refine st_g ha593 rfl rfl rfl rfl (y_move ha593 rfl) ?_
                    clear ha593 a592; intro a594 ha594
                    refine st_ge ha594 rfl rfl rfl rfl (fun K hK => ?_)
                    refine e_call ha594 Try.func16 rfl rfl rfl rfl (all_any _ _ _ (fl2) _ (m588.ok 1 _ rfl : Res.ok _ _ _ _ (.box _ _ _)).1 (m588.segP (i := 1) (j := 2) rfl rfl) (m588.neP (i := 1) (j := 2) (by decide) rfl rfl) (by omega) (fun f hf => Nat.le_trans (hfo2 f hf) (by decide))) ?_
                    rintro e w595 ⟨v595, pp595, cc595, rfl, hp595, hd595⟩
                    have hd595 := hd595.cast (fun b h => m588.freeC (i := 1) (j := 2) (pt := 48) (e := 35) (mm := 3) (rows' := ((fl2).map flD)) h)
                    have m596 := m588.callP 1 2 (by decide) rfl rfl hp595
                    clear m588
                    have m597 := m596.dat 203 rfl hd595
                    clear m596
                    obtain ⟨p595, c595, hv595⟩ := hp595.2.1.shape
                    subst hv595
                    clear hp595 hd595
                    refine ⟨_, rfl, fun a598 ha598 => ?_⟩; clear ha594 a594
                    refine hK _ _ ?_; clear hK K
                    refine st_g ha598 rfl rfl rfl rfl (y_len ha598 rfl Try.underlying27) ?_
                    clear ha598 a598; intro a599 ha599
                    refine st_g ha599 rfl rfl rfl rfl (y_move ha599 rfl) ?_
                    clear ha599 a599; intro a600 ha600
                    refine st_g ha600 rfl rfl rfl rfl (y_neq ha600 rfl rfl) ?_
                    clear ha600 a600; intro a601 ha601
                    refine st_y ha601 rfl (y_pickF ha601 rfl rfl) ?_
                    clear ha601 a601; intro a602 ha602
                    refine wpList_nil ?_
                    refine hK60 _ _ ?_; clear hK60; try clear K60
                    refine bool_cases ha602 (t := 92) rfl (fun hb603 ha603 => ?_) (fun hb603 ha603 => ?_)
                    · exact absurd hb603 (by simp; first | (rw [if_pos (by omega)] at hcnt; omega) | (rw [if_neg (by omega)] at hcnt; omega))
                    clear ha602 hb603
                    refine wp_cond_false (ha603.ev (x := .tmp 92) rfl) ?_
                    refine wp_skip ?_
                    refine hK19 _ _ ?_; clear hK19; try clear K19
                    have ha604 : Has 93 [(1, _), (5, _), (8, _), (9, _), (51, _), (79, _)] a602 := ha603.only [1, 5, 8, 9, 51, 79]; clear ha603
                    refine wp_region_lit ?_
                    refine st_y ha604 rfl (y_move ha604 rfl) ?_
                    clear ha604 a602; intro a605 ha605
                    refine st_y ha605 rfl (y_add ha605 rfl rfl (r := ((k + 1 : Nat) : Int)) (by rw [IntWalk.i64_in _ (by omega)]; omega)) ?_
                    clear ha605 a605; intro a606 ha606
                    refine st_y ha606 rfl (y_assign ha606 rfl) ?_
                    clear ha606 a606; intro a607 ha607
                    refine wpList_nil ?_
                    show ∃ n', n' < _ ∧ _
                    have hlen : (fl2.length : Int) = (fl.length : Int) := by first | (rw [if_pos (by omega)] at hcnt; omega) | (rw [if_neg (by omega)] at hcnt; omega)
                    rw [← hlen] at ha607
                    exact ⟨picks.length - (k + 1), by omega, k + 1, fl2, _, _, _, _, _, by omega, rfl, by omega, hfo2, ha607.only [1, 5, 8, 9], m597.only [1, 2, 3]⟩
          · skip
            clear ha58
            try simp only [decide_eq_true_eq, decide_eq_false_iff_not, Bool.not_eq_true, Bool.not_eq_false, Bool.not_eq_eq_eq_not, Bool.not_true, Bool.not_false, Bool.not_not, Int.not_lt, Int.not_le, ne_eq, Decidable.not_not] at hb59
            refine wp_cond_false (ha59.ev (x := .tmp 42) rfl) ?_
            refine wp_exit ?_
            refine hK15 _ _ ?_; clear hK15; try clear K15
            refine wp_seq_k (fun K61 hK61 => ?_)
            refine wp_region_lit ?_
            refine st_y ha59 rfl (y_assign ha59 rfl) ?_
            clear ha59 a58; intro a608 ha608
            refine wpList_nil ?_
            refine hK61 _ _ ?_; clear hK61; try clear K61
            refine wp_ret ?_
            try dsimp only [Exit.then, Exit.inBlock]
            refine (ret1 (fn := Try.f5) ha608 rfl rfl ?_)
            exact ⟨rfl, m54.below⟩
end Go.Proofs.Ytnllgfmjcnjgdaa.K
