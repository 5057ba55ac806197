/- net: Take, Twice, All. -/
import Derived.Test.YtnllgfmjcnjgdaaNet1
namespace Go.Proofs.Ytnllgfmjcnjgdaa.K
open Go.ChangeShapes Go.WideShapes Go.ChangeAt Go.RowKit
set_option linter.unusedVariables false
set_option linter.unusedSimpArgs false

theorem fl35t : flatS Try.prog 35 [.int .i64 0, .int .i64 0, .slice none 0 0] = true := by kernel_rfl
theorem inf35t : (Try.prog.info? 35).map (fun i => (i.zero, i.size, i.bytes)) = some (some (.agg #[.int .i64 0, .int .i64 0, .slice none 0 0]), 3, 40) := by kernel_rfl
theorem sz27t : (Try.prog.info? 27).map (·.size) = some 1 := by kernel_rfl
theorem sz35t : (Try.prog.info? 35).map (·.size) = some 3 := by kernel_rfl
theorem zc35t : ((Try.prog.info? 35).bind (·.zero)).map (·.cells.toList) = some [.int .i64 0, .int .i64 0, .slice none 0 0] := by kernel_rfl
theorem inf35w : (Try.prog.info? 35).map (fun i => (i.zero, i.size, i.bytes)) = some (some (.agg #[.int .i64 0, .int .i64 0, .slice none 0 0]), 3, 40) := by kernel_rfl
theorem sz35w : (Try.prog.info? 35).map (·.size) = some 3 := by kernel_rfl
theorem inf35a : (Try.prog.info? 35).map (fun i => (i.zero, i.size, i.bytes)) = some (some (.agg #[.int .i64 0, .int .i64 0, .slice none 0 0]), 3, 40) := by kernel_rfl
theorem sz35a : (Try.prog.info? 35).map (·.size) = some 3 := by kernel_rfl
theorem zc35a : ((Try.prog.info? 35).bind (·.zero)).map (·.cells.toList) = some [.int .i64 0, .int .i64 0, .slice none 0 0] := by kernel_rfl

set_option maxRecDepth 100000
set_option maxHeartbeats 4000000
theorem take_yes (S : Nat → Prop) (B : Nat) (p0 : Option Addr) (c0 k : Nat) (fl : List (Int × Int × List Int)) (ff ft : Int) (fd : List Int) (w0 : World) (hB : Blk w0 B 48 [.slice p0 (fl.map flD).length c0]) (hs : SegOk (fun b => S b ∧ b ≠ B ∧ (Value.slice p0 (fl.map flD).length c0).ownBlock ≠ some b) w0 (.slice p0 (fl.map flD).length c0) 35 3 (fl.map flD)) (hne : (Value.slice p0 (fl.map flD).length c0).ownBlock ≠ some B) (hn : fl.length ≤ 1000) (hfl : fl[k]? = some (ff, ft, fd)) :
    Calls Try.prog 10 #[.pointer (some ⟨B, 0, none⟩), .int .i64 (k : Int)] w0 fun e w' => ∃ v' p' c', e = .returned (.tuple #[.agg #[.int .i64 ff, .int .i64 ft, .slice p' fd.length c'], .bool true]) ∧ PoolAt S w0 B 48 35 3 (.slice p0 (fl.map flD).length c0) ((fl.eraseIdx k).map flD) w' v' ∧ Rd (fun b => (S b ∨ w0.heap.size ≤ b) ∧ b ≠ B ∧ v'.ownBlock ≠ some b) w' (.slice p' fd.length c') (.ns .u8 fd) := by
  have hk := (List.getElem?_eq_some_iff.1 hfl).1
  refine enter (fn := Try.f10) Try.func10 rfl Try.ntmps10 rfl (fun a0 ha0 => ?_)
  simp only [List.zipIdx_cons, List.zipIdx_nil, List.map_cons, List.map_nil, Nat.reduceAdd, Nat.zero_add] at ha0
  have m0 := MemOk.startP S w0 hB hs hne
  refine wp_seq_k (fun K0 hK0 => ?_)
  refine wp_region_lit ?_
  refine wpList_plain rfl (fun K hK => ?_)
  refine e_alloc ha0 m0 3 zc35t rfl ?_
  clear ha0 a0 m0; intro g1 a2 w2 ha2 m2 hB2 hg2
  clear hB2 hg2
  refine hK _ _ ?_; clear hK K
  refine st_y ha2 rfl (y_assign ha2 rfl) ?_
  clear ha2 a2; intro a3 ha3
  refine wpList_nil ?_
  refine hK0 _ _ ?_; clear hK0; try clear K0
  refine wp_seq_k (fun K1 hK1 => ?_)
  refine wp_seq_k (fun K2 hK2 => ?_)
  refine wp_region_lit ?_
  refine st_y ha3 rfl (y_move ha3 rfl) ?_
  clear ha3 a3; intro a4 ha4
  refine st_y ha4 rfl (y_move ha4 rfl) ?_
  clear ha4 a4; intro a5 ha5
  refine wpList_plain rfl (fun K hK => ?_)
  refine e_call ha5 Try.func18 rfl rfl rfl rfl (has_any _ _ _ _ _ _ (m2.ok 1 _ rfl : Res.ok _ _ _ _ (.box _ _ _)).1) ?_
  rintro e w6 ⟨rfl, hb6⟩
  have m7 := m2.later hb6
  clear m2
  clear hb6
  refine ⟨_, rfl, fun a8 ha8 => ?_⟩; clear ha5 a5
  refine hK _ _ ?_; clear hK K
  refine st_y ha8 rfl (y_not ha8 rfl) ?_
  clear ha8 a8; intro a9 ha9
  refine wpList_nil ?_
  refine hK2 _ _ ?_; clear hK2; try clear K2
  refine bool_cases ha9 (t := 10) rfl (fun hb10 ha10 => ?_) (fun hb10 ha10 => ?_)
  · exact absurd hb10 (by simp; omega)
  clear ha9 hb10
  refine wp_cond_false (ha10.ev (x := .tmp 10) rfl) ?_
  refine wp_skip ?_
  refine hK1 _ _ ?_; clear hK1; try clear K1
  refine wp_seq_k (fun K3 hK3 => ?_)
  refine wp_region_lit ?_
  refine st_y ha10 rfl (y_move ha10 rfl) ?_
  clear ha10 a9; intro a11 ha11
  refine st_y ha11 rfl (y_nilCheck ha11 rfl) ?_
  clear ha11 a11; intro a12 ha12
  refine st_y ha12 rfl (y_fieldAddr ha12 (off := 0) rfl Try.underlying48 rfl (s := 0) (by kernel_rfl) rfl) ?_
  clear ha12 a12; intro a13 ha13
  refine st_y ha13 rfl (y_loadB1 ha13 m7 (i := 1) rfl rfl rfl Try.underlying27 rfl) ?_
  clear ha13 a13; intro a14 ha14
  refine st_y ha14 rfl (y_move ha14 rfl) ?_
  clear ha14 a14; intro a15 ha15
  obtain ⟨gs16, os16, vs16, hp16, hl16, hR16, hrg16⟩ := m7.openS (i := 2) rfl (k) (r := [.v (.int .i64 ff), .v (.int .i64 ft), .ns .u8 fd]) (fl_get hfl)
  cases hp16; clear hl16
  rcases hR16 with _ | ⟨hd16_0, _ | ⟨hd16_1, _ | ⟨hd16_2, _ | _⟩⟩⟩
  obtain rfl := hd16_0.v_out
  clear hd16_0
  obtain rfl := hd16_1.v_out
  clear hd16_1
  obtain ⟨p17, c17, hv17, hw17⟩ := hd16_2.ns_shape; subst hv17
  have m17 := m7.dat 4 rfl (hd16_2.cast (fun _ h => h)); clear m7 hd16_2
  refine st_y ha15 rfl (y_idx ha15 rfl rfl Try.underlying27 sz35t (k) rfl (by simp; omega)) ?_
  clear ha15 a15; intro a18 ha18
  refine st_y ha18 rfl (y_loadAt ha18 hrg16 rfl Try.underlying35 rfl sz35t) ?_
  clear ha18 a18; intro a19 ha19
  refine wpList_plain rfl (fun K hK => ?_)
  refine e_alloc ha19 m17 5 zc35t rfl ?_
  clear ha19 a19 m17; intro g20 a21 w21 ha21 m21 hB21 hg21
  clear hB21 hg21
  refine hK _ _ ?_; clear hK K
  refine wpList_plain rfl (fun K hK => ?_)
  refine e_storeW ha21 m21 5 rfl rfl rfl rfl rfl sz35t ?_
  clear m21; intro w22 m22 hB22
  clear hB22
  refine hK _ _ ?_; clear hK K
  refine wpList_nil ?_
  refine hK3 _ _ ?_; clear hK3; try clear K3
  refine wp_seq_k (fun K4 hK4 => ?_)
  refine wp_seq_k (fun K5 hK5 => ?_)
  have ha23 : Has 47 [(0, _), (1, _), (4, _), (5, _), (6, _)] a21 := ha21.only [0, 1, 4, 5, 6]; clear ha21
  refine wp_region_lit ?_
  refine st_y ha23 rfl (y_move ha23 rfl) ?_
  clear ha23 a21; intro a24 ha24
  refine st_y ha24 rfl (y_eql ha24 rfl rfl) ?_
  clear ha24 a24; intro a25 ha25
  refine wpList_nil ?_
  refine hK5 _ _ ?_; clear hK5; try clear K5
  refine bool_cases ha25 (t := 20) rfl (fun hb26 ha26 => ?_) (fun hb26 ha26 => ?_)
  · skip
    clear ha25
    try simp only [decide_eq_true_eq, decide_eq_false_iff_not, Bool.not_eq_true, Bool.not_eq_false, Bool.not_eq_eq_eq_not, Bool.not_true, Bool.not_false, Bool.not_not, Int.not_lt, Int.not_le, ne_eq, Decidable.not_not] at hb26
    obtain rfl : k = 0 := by omega
    refine wp_cond_true (ha26.ev (x := .tmp 20) rfl) ?_
    refine wp_region_lit ?_
    refine st_y ha26 rfl (y_move ha26 rfl) ?_
    clear ha26 a25; intro a27 ha27
    refine st_y ha27 rfl (y_move ha27 rfl) ?_
    clear ha27 a27; intro a28 ha28
    refine st_y ha28 rfl (y_nilCheck ha28 rfl) ?_
    clear ha28 a28; intro a29 ha29
    refine st_y ha29 rfl (y_fieldAddr ha29 (off := 0) rfl Try.underlying48 rfl (s := 0) (by kernel_rfl) rfl) ?_
    clear ha29 a29; intro a30 ha30
    refine st_y ha30 rfl (y_loadB1 ha30 m22 (i := 1) rfl rfl rfl Try.underlying27 rfl) ?_
    clear ha30 a30; intro a31 ha31
    have m32 := m22.dropS 2 rfl 1 (by simp; omega) (by simp; omega); clear m22
    refine st_y ha31 rfl (y_sliceLn ha31 1 rfl rfl Try.underlying27 sz35t rfl (by simp; omega)) ?_
    clear ha31 a31; intro a33 ha33
    refine st_y ha33 rfl (y_nilCheck ha33 rfl) ?_
    clear ha33 a33; intro a34 ha34
    refine st_y ha34 rfl (y_fieldAddr ha34 (off := 0) rfl Try.underlying48 rfl (s := 0) (by kernel_rfl) rfl) ?_
    clear ha34 a34; intro a35 ha35
    refine wpList_plain rfl (fun K hK => ?_)
    refine e_store1 ha35 m32 1 rfl rfl rfl rfl rfl sz27t (by dsimp only [List.set] <;> rfl) ?_
    clear m32; intro w36 m36 hB36
    clear hB36
    refine hK _ _ ?_; clear hK K
    refine wpList_nil ?_
    refine hK4 _ _ ?_; clear hK4; try clear K4
    refine wp_seq_k (fun K6 hK6 => ?_)
    have ha37 : Has 47 [(4, _), (5, _), (6, _), (20, _)] a35 := ha35.only [4, 5, 6, 20]; clear ha35
    refine wp_region_lit ?_
    refine st_y ha37 rfl (y_loadBR ha37 m36 (i := 5) rfl rfl Try.underlying35 rfl sz35t (by simp) (by dsimp only [List.drop, List.take] <;> rfl)) ?_
    clear ha37 a35; intro a38 ha38
    refine wpList_plain rfl (fun K hK => ?_)
    refine e_storeW ha38 m36 3 rfl rfl rfl rfl rfl sz35t ?_
    clear m36; intro w39 m39 hB39
    clear hB39
    refine hK _ _ ?_; clear hK K
    refine st_y ha38 rfl (y_assign ha38 rfl) ?_
    clear ha38 a38; intro a40 ha40
    refine wpList_nil ?_
    refine hK6 _ _ ?_; clear hK6; try clear K6
    refine wp_ret ?_
    try dsimp only [Exit.then, Exit.inBlock]
    refine (retCT (fn := Try.f10) ha40 m39 (i := 3) rfl rfl rfl rfl Try.underlying35 rfl sz35t ?_)
    rw [← List.map_drop, show fl.drop 1 = fl.eraseIdx 0 from by simp] at m39
    exact ⟨_, _, _, rfl, m39.outP (i := 1) (j := 2) (by decide) rfl rfl hB.lt, m39.outPD (i := 1) (j := 2) (q := 4) rfl rfl rfl⟩
  · skip
    clear ha25
    try simp only [decide_eq_true_eq, decide_eq_false_iff_not, Bool.not_eq_true, Bool.not_eq_false, Bool.not_eq_eq_eq_not, Bool.not_true, Bool.not_false, Bool.not_not, Int.not_lt, Int.not_le, ne_eq, Decidable.not_not] at hb26
    refine wp_cond_false (ha26.ev (x := .tmp 20) rfl) ?_
    have hcap := m22.capS (i := 2) rfl
    have m41 : MemOk _ _ [(1, _), (2, _), (3, _), (4, _), (5, _)] _ := m22.only [1, 2, 3, 4, 5]; clear m22
    refine region_m 14 (B := [(1, _), (2, _), (3, _), (4, _), (5, _)]) (m41.to ⟨.inl rfl, .inl rfl, .inl rfl, .inl rfl, .inl rfl, trivial⟩) m41 (by kernel_rfl) (fun w42 mB42 m42 => ?_); clear m41 mB42
    refine d_y 0 ha26 rfl rfl (fun _ => (m42.to ⟨.inl rfl, .inl rfl, .inl rfl, .inl rfl, .inl rfl, trivial⟩)) (by kernel_rfl) (by kernel_rfl) (by kernel_rfl) (by rfl) (fun _ _ _ h => h) (fun W => y_move ha26 rfl) ?_
    clear ha26 a25; intro a43 ha43
    refine d_y 1 ha43 rfl rfl (fun _ => (m42.to ⟨.inl rfl, .inl rfl, .inl rfl, .inl rfl, .inl rfl, trivial⟩)) (by kernel_rfl) (by kernel_rfl) (by kernel_rfl) (by rfl) (fun _ _ _ h => h) (fun W => y_move ha43 rfl) ?_
    clear ha43 a43; intro a44 ha44
    refine d_y 2 ha44 rfl rfl (fun _ => (m42.to ⟨.inl rfl, .inl rfl, .inl rfl, .inl rfl, .inl rfl, trivial⟩)) (by kernel_rfl) (by kernel_rfl) (by kernel_rfl) (by rfl) (fun _ _ _ h => h) (fun W => y_nilCheck ha44 rfl) ?_
    clear ha44 a44; intro a45 ha45
    refine d_y 3 ha45 rfl rfl (fun _ => (m42.to ⟨.inl rfl, .inl rfl, .inl rfl, .inl rfl, .inl rfl, trivial⟩)) (by kernel_rfl) (by kernel_rfl) (by kernel_rfl) (by rfl) (fun _ _ _ h => h) (fun W => y_fieldAddr ha45 (off := 0) rfl Try.underlying48 rfl (s := 0) (by kernel_rfl) rfl) ?_
    clear ha45 a45; intro a46 ha46
    refine d_r 4 ha46 rfl rfl (m42.to ⟨.inl rfl, .inl rfl, .inl rfl, .inl rfl, .inl rfl, trivial⟩) (by kernel_rfl) (by kernel_rfl) (by kernel_rfl) (by kernel_rfl) (by kernel_rfl) (fun _ _ _ h => h) (fun W hW => y_loadB1 ha46 hW (i := 1) rfl rfl rfl Try.underlying27 rfl) ?_
    clear ha46 a46; intro a47 ha47
    refine d_y 5 ha47 rfl rfl (fun _ => (m42.to ⟨.inl rfl, .inl rfl, .inl rfl, .inl rfl, .inl rfl, trivial⟩)) (by kernel_rfl) (by kernel_rfl) (by kernel_rfl) (by rfl) (fun _ _ _ h => h) (fun W => y_move ha47 rfl) ?_
    clear ha47 a47; intro a48 ha48
    refine d_y 6 ha48 rfl rfl (fun _ => (m42.to ⟨.inl rfl, .inl rfl, .inl rfl, .inl rfl, .inl rfl, trivial⟩)) (by kernel_rfl) (by kernel_rfl) (by kernel_rfl) (by rfl) (fun _ _ _ h => h) (fun W => y_sliceHn ha48 k rfl rfl Try.underlying27 sz35t rfl (by simp at hcap; omega)) ?_
    clear ha48 a48; intro a49 ha49
    refine d_y 7 ha49 rfl rfl (fun _ => (m42.to ⟨.inl rfl, .inl rfl, .inl rfl, .inl rfl, .inl rfl, trivial⟩)) (by kernel_rfl) (by kernel_rfl) (by kernel_rfl) (by rfl) (fun _ _ _ h => h) (fun W => y_move ha49 rfl) ?_
    clear ha49 a49; intro a50 ha50
    refine d_y 8 ha50 rfl rfl (fun _ => (m42.to ⟨.inl rfl, .inl rfl, .inl rfl, .inl rfl, .inl rfl, trivial⟩)) (by kernel_rfl) (by kernel_rfl) (by kernel_rfl) (by rfl) (fun _ _ _ h => h) (fun W => y_nilCheck ha50 rfl) ?_
    clear ha50 a50; intro a51 ha51
    refine d_y 9 ha51 rfl rfl (fun _ => (m42.to ⟨.inl rfl, .inl rfl, .inl rfl, .inl rfl, .inl rfl, trivial⟩)) (by kernel_rfl) (by kernel_rfl) (by kernel_rfl) (by rfl) (fun _ _ _ h => h) (fun W => y_fieldAddr ha51 (off := 0) rfl Try.underlying48 rfl (s := 0) (by kernel_rfl) rfl) ?_
    clear ha51 a51; intro a52 ha52
    refine d_r 10 ha52 rfl rfl (m42.to ⟨.inl rfl, .inl rfl, .inl rfl, .inl rfl, .inl rfl, trivial⟩) (by kernel_rfl) (by kernel_rfl) (by kernel_rfl) (by kernel_rfl) (by kernel_rfl) (fun _ _ _ h => h) (fun W hW => y_loadB1 ha52 hW (i := 1) rfl rfl rfl Try.underlying27 rfl) ?_
    clear ha52 a52; intro a53 ha53
    refine d_y 11 ha53 rfl rfl (fun _ => (m42.to ⟨.inl rfl, .inl rfl, .inl rfl, .inl rfl, .inl rfl, trivial⟩)) (by kernel_rfl) (by kernel_rfl) (by kernel_rfl) (by rfl) (fun _ _ _ h => h) (fun W => y_move ha53 rfl) ?_
    clear ha53 a53; intro a54 ha54
    refine d_y 12 ha54 rfl rfl (fun _ => (m42.to ⟨.inl rfl, .inl rfl, .inl rfl, .inl rfl, .inl rfl, trivial⟩)) (by kernel_rfl) (by kernel_rfl) (by kernel_rfl) (by rfl) (fun _ _ _ h => h) (fun W => y_add ha54 rfl rfl (r := ((k + 1 : Nat) : Int)) (by rw [IntWalk.i64_in _ (by omega)]; omega)) ?_
    clear ha54 a54; intro a55 ha55
    refine d_y 13 ha55 rfl rfl (fun _ => (m42.to ⟨.inl rfl, .inl rfl, .inl rfl, .inl rfl, .inl rfl, trivial⟩)) (by kernel_rfl) (by kernel_rfl) (by kernel_rfl) (by rfl) (fun _ _ _ h => h) (fun W => y_sliceLn ha55 (k + 1) rfl rfl Try.underlying27 sz35t rfl (by simp; omega)) ?_
    clear ha55 a55; intro a56 ha56
    refine stepE_end 14 rfl (by kernel_rfl) rfl (by rfl) (fun K hK => ?_)
    refine e_appS ha56 m42 2 rfl (k) (by simp; omega) rfl rfl (m42.sufS (i := 2) rfl (k + 1) (by simp; omega)) Try.underlying27 inf35t rfl rfl (by decide) (by simp; omega) rfl ?_
    clear ha56 a56 m42; intro p57 c57 a58 w58 ha58 m58 
    refine hK _ _ ?_; clear hK K
    refine d_y 15 ha58 rfl rfl (fun h => (Bool.false_ne_true (h.symm.trans (by rfl))).elim) (by kernel_rfl) (by kernel_rfl) (by kernel_rfl) (by rfl) (fun _ _ _ h => h) (fun W => y_nilCheck ha58 rfl) ?_
    clear ha58 a58; intro a59 ha59
    refine d_y 16 ha59 rfl rfl (fun h => (Bool.false_ne_true (h.symm.trans (by rfl))).elim) (by kernel_rfl) (by kernel_rfl) (by kernel_rfl) (by rfl) (fun _ _ _ h => h) (fun W => y_fieldAddr ha59 (off := 0) rfl Try.underlying48 rfl (s := 0) (by kernel_rfl) rfl) ?_
    clear ha59 a59; intro a60 ha60
    refine stepE_end 17 rfl (by kernel_rfl) rfl (by rfl) (fun K hK => ?_)
    refine e_store1 ha60 m58 1 rfl rfl rfl rfl rfl sz27t (by dsimp only [List.set] <;> rfl) ?_
    clear m58; intro w61 m61 hB61
    clear hB61
    refine hK _ _ ?_; clear hK K
    refine wpAnyE_done (by kernel_rfl) ?_ _
    refine hK4 _ _ ?_; clear hK4; try clear K4
    refine wp_seq_k (fun K7 hK7 => ?_)
    have ha62 : Has 47 [(4, _), (5, _), (6, _), (20, _), (35, _)] a60 := ha60.only [4, 5, 6, 20, 35]; clear ha60
    refine wp_region_lit ?_
    refine st_y ha62 rfl (y_loadBR ha62 m61 (i := 5) rfl rfl Try.underlying35 rfl sz35t (by simp) (by dsimp only [List.drop, List.take] <;> rfl)) ?_
    clear ha62 a60; intro a63 ha63
    refine wpList_plain rfl (fun K hK => ?_)
    refine e_storeW ha63 m61 3 rfl rfl rfl rfl rfl sz35t ?_
    clear m61; intro w64 m64 hB64
    clear hB64
    refine hK _ _ ?_; clear hK K
    refine st_y ha63 rfl (y_assign ha63 rfl) ?_
    clear ha63 a63; intro a65 ha65
    refine wpList_nil ?_
    refine hK7 _ _ ?_; clear hK7; try clear K7
    refine wp_ret ?_
    try dsimp only [Exit.then, Exit.inBlock]
    refine (retCT (fn := Try.f10) ha65 m64 (i := 3) rfl rfl rfl rfl Try.underlying35 rfl sz35t ?_)
    rw [← List.map_take, ← List.map_drop, ← List.map_append, ← List.eraseIdx_eq_take_drop_succ] at m64
    exact ⟨_, _, _, rfl, m64.outP (i := 1) (j := 2) (by decide) rfl rfl hB.lt, m64.outPD (i := 1) (j := 2) (q := 4) rfl rfl rfl⟩
theorem take_no (S : Nat → Prop) (B : Nat) (p0 : Option Addr) (c0 : Nat) (q : Int) (fl : List (Int × Int × List Int)) (w0 : World) (hB : Blk w0 B 48 [.slice p0 (fl.map flD).length c0]) (hs : SegOk (fun b => S b ∧ b ≠ B ∧ (Value.slice p0 (fl.map flD).length c0).ownBlock ≠ some b) w0 (.slice p0 (fl.map flD).length c0) 35 3 (fl.map flD)) (hne : (Value.slice p0 (fl.map flD).length c0).ownBlock ≠ some B) (hn : fl.length ≤ 1000) (hq : q < 0 ∨ fl.length ≤ q) :
    Calls Try.prog 10 #[.pointer (some ⟨B, 0, none⟩), .int .i64 q] w0 fun e w' => ∃ v', e = .returned (.tuple #[.agg #[.int .i64 0, .int .i64 0, .slice none 0 0], .bool false]) ∧ PoolAt S w0 B 48 35 3 (.slice p0 (fl.map flD).length c0) (fl.map flD) w' v' := by
  refine enter (fn := Try.f10) Try.func10 rfl Try.ntmps10 rfl (fun a0 ha0 => ?_)
  simp only [List.zipIdx_cons, List.zipIdx_nil, List.map_cons, List.map_nil, Nat.reduceAdd, Nat.zero_add] at ha0
  have m0 := MemOk.startP S w0 hB hs hne
  refine wp_seq_k (fun K0 hK0 => ?_)
  refine wp_region_lit ?_
  refine wpList_plain rfl (fun K hK => ?_)
  refine e_alloc ha0 m0 3 zc35t rfl ?_
  clear ha0 a0 m0; intro g1 a2 w2 ha2 m2 hB2 hg2
  clear hB2 hg2
  refine hK _ _ ?_; clear hK K
  refine st_y ha2 rfl (y_assign ha2 rfl) ?_
  clear ha2 a2; intro a3 ha3
  refine wpList_nil ?_
  refine hK0 _ _ ?_; clear hK0; try clear K0
  refine wp_seq_k (fun K1 hK1 => ?_)
  refine wp_seq_k (fun K2 hK2 => ?_)
  refine wp_region_lit ?_
  refine st_y ha3 rfl (y_move ha3 rfl) ?_
  clear ha3 a3; intro a4 ha4
  refine st_y ha4 rfl (y_move ha4 rfl) ?_
  clear ha4 a4; intro a5 ha5
  refine wpList_plain rfl (fun K hK => ?_)
  refine e_call ha5 Try.func18 rfl rfl rfl rfl (has_any _ _ _ _ _ _ (m2.ok 1 _ rfl : Res.ok _ _ _ _ (.box _ _ _)).1) ?_
  rintro e w6 ⟨rfl, hb6⟩
  have m7 := m2.later hb6
  clear m2
  clear hb6
  refine ⟨_, rfl, fun a8 ha8 => ?_⟩; clear ha5 a5
  refine hK _ _ ?_; clear hK K
  refine st_y ha8 rfl (y_not ha8 rfl) ?_
  clear ha8 a8; intro a9 ha9
  refine wpList_nil ?_
  refine hK2 _ _ ?_; clear hK2; try clear K2
  refine bool_cases ha9 (t := 10) rfl (fun hb10 ha10 => ?_) (fun hb10 ha10 => ?_)
  rotate_left
  · exact absurd hb10 (by simp; omega)
  clear ha9 hb10
  refine wp_cond_true (ha10.ev (x := .tmp 10) rfl) ?_
  refine wp_seq_k (fun K3 hK3 => ?_)
  refine wp_region_lit ?_
  refine st_y ha10 rfl (y_build ha10 rfl zc35t fl35t rfl (by dsimp only [setL, List.set] <;> rfl)) ?_
  clear ha10 a9; intro a11 ha11
  refine wpList_plain rfl (fun K hK => ?_)
  refine e_storeW ha11 m7 3 rfl rfl rfl rfl rfl sz35t ?_
  clear m7; intro w12 m12 hB12
  clear hB12
  refine hK _ _ ?_; clear hK K
  refine st_y ha11 rfl (y_assign ha11 rfl) ?_
  clear ha11 a11; intro a13 ha13
  refine wpList_nil ?_
  refine hK3 _ _ ?_; clear hK3; try clear K3
  refine wp_ret ?_
  try dsimp only [Exit.then, Exit.inBlock]
  refine (retCT (fn := Try.f10) ha13 m12 (i := 3) rfl rfl rfl rfl Try.underlying35 rfl sz35t ?_)
  exact ⟨_, rfl, m12.outP (i := 1) (j := 2) (by decide) rfl rfl hB.lt⟩
theorem twice_yes (S : Nat → Prop) (B : Nat) (p0 : Option Addr) (c0 k : Nat) (fl : List (Int × Int × List Int)) (ff ft : Int) (fd : List Int) (w0 : World) (hB : Blk w0 B 48 [.slice p0 (fl.map flD).length c0]) (hs : SegOk (fun b => S b ∧ b ≠ B ∧ (Value.slice p0 (fl.map flD).length c0).ownBlock ≠ some b) w0 (.slice p0 (fl.map flD).length c0) 35 3 (fl.map flD)) (hne : (Value.slice p0 (fl.map flD).length c0).ownBlock ≠ some B) (hn : fl.length ≤ 900) (hfl : fl[k]? = some (ff, ft, fd)) (hfd1 : fd.length ≤ 100000) :
    Calls Try.prog 13 #[.pointer (some ⟨B, 0, none⟩), .int .i64 (k : Int)] w0 fun e w' => ∃ v', e = .returned (.bool true) ∧ PoolAt S w0 B 48 35 3 (.slice p0 (fl.map flD).length c0) ((fl ++ [(ff, ft, fd)]).map flD) w' v' := by
  have hk := (List.getElem?_eq_some_iff.1 hfl).1
  refine enter (fn := Try.f13) Try.func13 rfl Try.ntmps13 rfl (fun a0 ha0 => ?_)
  simp only [List.zipIdx_cons, List.zipIdx_nil, List.map_cons, List.map_nil, Nat.reduceAdd, Nat.zero_add] at ha0
  have m0 := MemOk.startP S w0 hB hs hne
  refine wp_seq_k (fun K0 hK0 => ?_)
  refine wp_region_lit ?_
  refine st_y ha0 rfl (y_assign ha0 rfl) ?_
  clear ha0 a0; intro a1 ha1
  refine wpList_nil ?_
  refine hK0 _ _ ?_; clear hK0; try clear K0
  refine wp_seq_k (fun K1 hK1 => ?_)
  refine wp_seq_k (fun K2 hK2 => ?_)
  refine wp_region_lit ?_
  refine st_y ha1 rfl (y_move ha1 rfl) ?_
  clear ha1 a1; intro a2 ha2
  refine st_y ha2 rfl (y_move ha2 rfl) ?_
  clear ha2 a2; intro a3 ha3
  refine wpList_plain rfl (fun K hK => ?_)
  refine e_call ha3 Try.func18 rfl rfl rfl rfl (has_any _ _ _ _ _ _ (m0.ok 1 _ rfl : Res.ok _ _ _ _ (.box _ _ _)).1) ?_
  rintro e w4 ⟨rfl, hb4⟩
  have m5 := m0.later hb4
  clear m0
  clear hb4
  refine ⟨_, rfl, fun a6 ha6 => ?_⟩; clear ha3 a3
  refine hK _ _ ?_; clear hK K
  refine st_y ha6 rfl (y_not ha6 rfl) ?_
  clear ha6 a6; intro a7 ha7
  refine wpList_nil ?_
  refine hK2 _ _ ?_; clear hK2; try clear K2
  refine bool_cases ha7 (t := 8) rfl (fun hb8 ha8 => ?_) (fun hb8 ha8 => ?_)
  · exact absurd hb8 (by simp; omega)
  clear ha7 hb8
  refine wp_cond_false (ha8.ev (x := .tmp 8) rfl) ?_
  refine wp_skip ?_
  refine hK1 _ _ ?_; clear hK1; try clear K1
  refine wp_seq_k (fun K3 hK3 => ?_)
  refine wp_region_lit ?_
  refine st_y ha8 rfl (y_move ha8 rfl) ?_
  clear ha8 a7; intro a9 ha9
  refine st_y ha9 rfl (y_move ha9 rfl) ?_
  clear ha9 a9; intro a10 ha10
  refine st_y ha10 rfl (y_nilCheck ha10 rfl) ?_
  clear ha10 a10; intro a11 ha11
  refine st_y ha11 rfl (y_fieldAddr ha11 (off := 0) rfl Try.underlying48 rfl (s := 0) (by kernel_rfl) rfl) ?_
  clear ha11 a11; intro a12 ha12
  refine st_y ha12 rfl (y_loadB1 ha12 m5 (i := 1) rfl rfl rfl Try.underlying27 rfl) ?_
  clear ha12 a12; intro a13 ha13
  refine st_y ha13 rfl (y_move ha13 rfl) ?_
  clear ha13 a13; intro a14 ha14
  obtain ⟨gs15, os15, vs15, hp15, hl15, hR15, hrg15⟩ := m5.openS (i := 2) rfl (k) (r := [.v (.int .i64 ff), .v (.int .i64 ft), .ns .u8 fd]) (fl_get hfl)
  cases hp15; clear hl15
  rcases hR15 with _ | ⟨hd15_0, _ | ⟨hd15_1, _ | ⟨hd15_2, _ | _⟩⟩⟩
  obtain rfl := hd15_0.v_out
  clear hd15_0
  obtain rfl := hd15_1.v_out
  clear hd15_1
  obtain ⟨p16, c16, hv16, hw16⟩ := hd15_2.ns_shape; subst hv16
  have m16 := m5.dat 3 rfl (hd15_2.cast (fun _ h => h)); clear m5 hd15_2
  refine st_y ha14 rfl (y_idx ha14 rfl rfl Try.underlying27 sz35w (k) rfl (by simp; omega)) ?_
  clear ha14 a14; intro a17 ha17
  refine st_y ha17 rfl (y_loadAt ha17 hrg15 rfl Try.underlying35 rfl sz35w) ?_
  clear ha17 a17; intro a18 ha18
  refine wpList_plain rfl (fun K hK => ?_)
  refine e_litR ha18 m16 4 (mm := 3) rfl (.cons rfl rfl (.cons (.v _) (.cons (.v _) (.cons (m16.rd (i := 3) rfl) .nil))) <| .nil) Try.underlying27 inf35w rfl rfl rfl rfl rfl ?_
  clear ha18 a18 m16; intro g19 a20 w20 ha20 m20 
  refine hK _ _ ?_; clear hK K
  have m21 := m20.freezeR 4 rfl; clear m20
  refine wpList_plain rfl (fun K hK => ?_)
  refine e_call ha20 Try.func8 rfl rfl rfl rfl (send_any _ _ _ _ [(ff, ft, fd)] _ _ _ (m21.ok 1 _ rfl : Res.ok _ _ _ _ (.box _ _ _)).1 (m21.segP (i := 1) (j := 2) rfl rfl) (m21.neP (i := 1) (j := 2) (by decide) rfl rfl) ((m21.rd (i := 4) rfl).cast (fun b hF => ⟨hF, fun h => hF.2 ⟨1, _, rfl, by rw [h]; rfl⟩, fun h => hF.2 ⟨2, _, rfl, h⟩⟩)) (by simp; omega) (by simpa using hfd1)) ?_
  rintro e w22 ⟨rfl, v22, hp22⟩
  have m23 := m21.callP 1 2 (by decide) rfl rfl hp22
  clear m21
  obtain ⟨p22, c22, hv22⟩ := hp22.2.1.shape
  subst hv22
  clear hp22
  refine ⟨_, rfl, fun a24 ha24 => ?_⟩; clear ha20 a20
  refine hK _ _ ?_; clear hK K
  refine wpList_nil ?_
  refine hK3 _ _ ?_; clear hK3; try clear K3
  refine wp_seq_k (fun K4 hK4 => ?_)
  have ha25 : Has 19 [(4, _)] a24 := ha24.only [4]; clear ha24
  refine wp_region_lit ?_
  refine st_y ha25 rfl (y_assign ha25 rfl) ?_
  clear ha25 a24; intro a26 ha26
  refine wpList_nil ?_
  refine hK4 _ _ ?_; clear hK4; try clear K4
  refine wp_ret ?_
  try dsimp only [Exit.then, Exit.inBlock]
  refine (ret1 (fn := Try.f13) ha26 rfl rfl ?_)
  exact ⟨_, rfl, by rw [List.map_append]; exact m23.outP (i := 1) (j := 2) (by decide) rfl rfl hB.lt⟩
theorem twice_no (S : Nat → Prop) (B : Nat) (p0 : Option Addr) (c0 : Nat) (q : Int) (fl : List (Int × Int × List Int)) (w0 : World) (hB : Blk w0 B 48 [.slice p0 (fl.map flD).length c0]) (hs : SegOk (fun b => S b ∧ b ≠ B ∧ (Value.slice p0 (fl.map flD).length c0).ownBlock ≠ some b) w0 (.slice p0 (fl.map flD).length c0) 35 3 (fl.map flD)) (hne : (Value.slice p0 (fl.map flD).length c0).ownBlock ≠ some B) (hn : fl.length ≤ 1000) (hq : q < 0 ∨ fl.length ≤ q) :
    Calls Try.prog 13 #[.pointer (some ⟨B, 0, none⟩), .int .i64 q] w0 fun e w' => ∃ v', e = .returned (.bool false) ∧ PoolAt S w0 B 48 35 3 (.slice p0 (fl.map flD).length c0) (fl.map flD) w' v' := by
  refine enter (fn := Try.f13) Try.func13 rfl Try.ntmps13 rfl (fun a0 ha0 => ?_)
  simp only [List.zipIdx_cons, List.zipIdx_nil, List.map_cons, List.map_nil, Nat.reduceAdd, Nat.zero_add] at ha0
  have m0 := MemOk.startP S w0 hB hs hne
  refine wp_seq_k (fun K0 hK0 => ?_)
  refine wp_region_lit ?_
  refine st_y ha0 rfl (y_assign ha0 rfl) ?_
  clear ha0 a0; intro a1 ha1
  refine wpList_nil ?_
  refine hK0 _ _ ?_; clear hK0; try clear K0
  refine wp_seq_k (fun K1 hK1 => ?_)
  refine wp_seq_k (fun K2 hK2 => ?_)
  refine wp_region_lit ?_
  refine st_y ha1 rfl (y_move ha1 rfl) ?_
  clear ha1 a1; intro a2 ha2
  refine st_y ha2 rfl (y_move ha2 rfl) ?_
  clear ha2 a2; intro a3 ha3
  refine wpList_plain rfl (fun K hK => ?_)
  refine e_call ha3 Try.func18 rfl rfl rfl rfl (has_any _ _ _ _ _ _ (m0.ok 1 _ rfl : Res.ok _ _ _ _ (.box _ _ _)).1) ?_
  rintro e w4 ⟨rfl, hb4⟩
  have m5 := m0.later hb4
  clear m0
  clear hb4
  refine ⟨_, rfl, fun a6 ha6 => ?_⟩; clear ha3 a3
  refine hK _ _ ?_; clear hK K
  refine st_y ha6 rfl (y_not ha6 rfl) ?_
  clear ha6 a6; intro a7 ha7
  refine wpList_nil ?_
  refine hK2 _ _ ?_; clear hK2; try clear K2
  refine bool_cases ha7 (t := 8) rfl (fun hb8 ha8 => ?_) (fun hb8 ha8 => ?_)
  rotate_left
  · exact absurd hb8 (by simp; omega)
  clear ha7 hb8
  refine wp_cond_true (ha8.ev (x := .tmp 8) rfl) ?_
  refine wp_seq_k (fun K3 hK3 => ?_)
  refine wp_region_lit ?_
  refine st_y ha8 rfl (y_assign ha8 rfl) ?_
  clear ha8 a7; intro a9 ha9
  refine wpList_nil ?_
  refine hK3 _ _ ?_; clear hK3; try clear K3
  refine wp_ret ?_
  try dsimp only [Exit.then, Exit.inBlock]
  refine (ret1 (fn := Try.f13) ha9 rfl rfl ?_)
  exact ⟨_, rfl, m5.outP (i := 1) (j := 2) (by decide) rfl rfl hB.lt⟩
theorem all_any (S : Nat → Prop) (B : Nat) (v0 : Value) (fl : List (Int × Int × List Int)) (w0 : World) (hB : Blk w0 B 48 [v0]) (hs : SegOk (fun b => S b ∧ b ≠ B ∧ v0.ownBlock ≠ some b) w0 v0 35 3 (fl.map flD)) (hne : v0.ownBlock ≠ some B) (hn : fl.length ≤ 1000) (hfd : ∀ f ∈ fl, f.2.2.length ≤ 100000) :
    Calls Try.prog 16 #[.pointer (some ⟨B, 0, none⟩)] w0 fun e w' => ∃ v' p' c', e = .returned (.slice p' (fl.map flD).length c') ∧ PoolAt S w0 B 48 35 3 v0 (fl.map flD) w' v' ∧ Rd (fun b => (S b ∨ w0.heap.size ≤ b) ∧ b ≠ B ∧ v'.ownBlock ≠ some b) w' (.slice p' (fl.map flD).length c') (.l 3 (fl.map flD)) := by
  refine enter (fn := Try.f16) Try.func16 rfl Try.ntmps16 rfl (fun a0 ha0 => ?_)
  simp only [List.zipIdx_cons, List.zipIdx_nil, List.map_cons, List.map_nil, Nat.reduceAdd, Nat.zero_add] at ha0
  have m00 := MemOk.startP S w0 hB hs hne
  obtain ⟨p1, c1, hv⟩ := hs.shape
  have m0 : MemOk (cxp S w0 B v0) w0 [(1, .box B 48 [.slice p1 (fl.map flD).length c1]), (2, .seg (.slice p1 (fl.map flD).length c1) 35 3 (fl.map flD))] w0 := by
    rw [← hv]; exact m00
  clear m00
  refine wp_seq_k (fun K0 hK0 => ?_)
  refine wp_region_lit ?_
  refine st_y ha0 rfl (y_assign ha0 rfl) ?_
  clear ha0 a0; intro a1 ha1
  refine wpList_nil ?_
  refine hK0 _ _ ?_; clear hK0; try clear K0
  refine wp_seq_k (fun K1 hK1 => ?_)
  refine wp_region_lit ?_
  have m2 := m0.nilR 3 35 3
  clear m0
  refine st_y ha1 rfl (y_assign ha1 rfl) ?_
  clear ha1 a1; intro a3 ha3
  refine wpList_nil ?_
  refine hK1 _ _ ?_; clear hK1; try clear K1
  refine wp_seq_k (fun K2 hK2 => ?_)
  refine wp_seq_k (fun K3 hK3 => ?_)
  refine wp_region_lit ?_
  refine st_y ha3 rfl (y_move ha3 rfl) ?_
  clear ha3 a3; intro a4 ha4
  refine st_y ha4 rfl (y_nilCheck ha4 rfl) ?_
  clear ha4 a4; intro a5 ha5
  refine st_y ha5 rfl (y_fieldAddr ha5 (off := 0) rfl Try.underlying48 rfl (s := 0) (by kernel_rfl) rfl) ?_
  clear ha5 a5; intro a6 ha6
  refine st_y ha6 rfl (y_loadB1 ha6 m2 (i := 1) rfl rfl rfl Try.underlying27 rfl) ?_
  clear ha6 a6; intro a7 ha7
  refine st_y ha7 rfl (y_len ha7 rfl Try.underlying27) ?_
  clear ha7 a7; intro a8 ha8
  refine st_y ha8 rfl (y_move ha8 rfl) ?_
  clear ha8 a8; intro a9 ha9
  refine wpList_nil ?_
  refine hK3 _ _ ?_; clear hK3; try clear K3
  refine wp_block ?_
  refine wp_loop_ghost (fun g a w => ∃ (k : Nat) (pp p : Option Addr) (cc c : Nat), k ≤ fl.length ∧ g = fl.length - k ∧ Has 22 [(3, .slice p ((fl.take k).map flD).length c), (9, .slice pp (fl.map flD).length cc), (10, .int .i64 (fl.map flD).length), (11, .int .i64 k)] a ∧ MemOk (cxp S w0 B v0) w0 [(1, .box B 48 [.slice pp (fl.map flD).length cc]), (2, .seg (.slice pp (fl.map flD).length cc) 35 3 (fl.map flD)), (3, .row (.slice p ((fl.take k).map flD).length c) 35 3 ((fl.take k).map flD))] w) (fl.length) ?_ ?_
  · exact ⟨0, _, _, _, _, Nat.zero_le _, rfl, ha9.only [3, 9, 10, 11], m2.only [1, 2, 3]⟩
  · skip
    clear ha9 m2
    rintro g a10 w10 ⟨k, pp, p, cc, c, hkl, hg, ha10, m10⟩
    refine wp_seq_k (fun K4 hK4 => ?_)
    refine wp_region_lit ?_
    refine st_y ha10 rfl (y_lss ha10 rfl rfl) ?_
    clear ha10 a10; intro a11 ha11
    refine wpList_nil ?_
    refine hK4 _ _ ?_; clear hK4; try clear K4
    refine wp_seq_k (fun K5 hK5 => ?_)
    refine bool_cases ha11 (t := 12) rfl (fun hb12 ha12 => ?_) (fun hb12 ha12 => ?_)
    · skip
      clear ha11
      try simp only [decide_eq_true_eq, decide_eq_false_iff_not, Bool.not_eq_true, Bool.not_eq_false, Bool.not_eq_eq_eq_not, Bool.not_true, Bool.not_false, Bool.not_not, Int.not_lt, Int.not_le, ne_eq, Decidable.not_not] at hb12
      have hk : k < fl.length := by simpa using hb12
      obtain ⟨⟨ff, ft, fd⟩, hfl⟩ : ∃ e, fl[k]? = some e := ⟨_, List.getElem?_eq_getElem hk⟩
      have hfd1 := hfd _ (List.mem_of_getElem? hfl)
      dsimp only at hfd1
      refine wp_cond_true (ha12.ev (x := .tmp 12) rfl) ?_
      refine wp_skip ?_
      refine hK5 _ _ ?_; clear hK5; try clear K5
      refine wp_seq_k (fun K6 hK6 => ?_)
      refine wp_block ?_
      refine wp_seq_k (fun K7 hK7 => ?_)
      refine wp_region_lit ?_
      obtain ⟨gs13, os13, vs13, hp13, hl13, hR13, hrg13⟩ := m10.openS (i := 2) rfl (k) (r := [.v (.int .i64 ff), .v (.int .i64 ft), .ns .u8 fd]) (fl_get hfl)
      cases hp13; clear hl13
      rcases hR13 with _ | ⟨hd13_0, _ | ⟨hd13_1, _ | ⟨hd13_2, _ | _⟩⟩⟩
      obtain rfl := hd13_0.v_out
      clear hd13_0
      obtain rfl := hd13_1.v_out
      clear hd13_1
      obtain ⟨p14, c14, hv14, hw14⟩ := hd13_2.ns_shape; subst hv14
      have m14 := m10.dat 100 rfl (hd13_2.cast (fun _ h => h)); clear m10 hd13_2
      refine st_y ha12 rfl (y_idx ha12 rfl rfl Try.underlying27 sz35a (k) rfl (by simp; omega)) ?_
      clear ha12 a11; intro a15 ha15
      refine st_y ha15 rfl (y_loadAt ha15 hrg13 rfl Try.underlying35 rfl sz35a) ?_
      clear ha15 a15; intro a16 ha16
      refine wpList_plain rfl (fun K hK => ?_)
      refine e_alloc ha16 m14 101 zc35a rfl ?_
      clear ha16 a16 m14; intro g17 a18 w18 ha18 m18 hB18 hg18
      clear hB18 hg18
      refine hK _ _ ?_; clear hK K
      refine wpList_plain rfl (fun K hK => ?_)
      refine e_storeW ha18 m18 101 rfl rfl rfl rfl rfl sz35a ?_
      clear m18; intro w19 m19 hB19
      clear hB19
      refine hK _ _ ?_; clear hK K
      refine wpList_nil ?_
      refine hK7 _ _ ?_; clear hK7; try clear K7
      refine wp_region_lit ?_
      refine st_y ha18 rfl (y_move ha18 rfl) ?_
      clear ha18 a18; intro a20 ha20
      refine st_y ha20 rfl (y_loadBR ha20 m19 (i := 101) rfl rfl Try.underlying35 rfl sz35a (by simp) (by dsimp only [List.drop, List.take] <;> rfl)) ?_
      clear ha20 a20; intro a21 ha21
      refine wpList_plain rfl (fun K hK => ?_)
      refine e_call ha21 Try.func17 rfl rfl rfl rfl (copied_any _ _ _ _ _ _ _ (m19.rd (i := 100) rfl).any hfd1) ?_
      rintro e w22 ⟨u22, c22, rfl, ho22, hb22⟩
      have m23 := m19.newN 102 hb22 ho22
      clear m19
      clear hb22 ho22
      refine ⟨_, rfl, fun a24 ha24 => ?_⟩; clear ha21 a21
      refine hK _ _ ?_; clear hK K
      have m26 := m23.freezeN 102 rfl; clear m23
      refine wpList_plain rfl (fun K hK => ?_)
      refine e_litR ha24 m26 103 (mm := 3) rfl (.cons rfl rfl (.cons (.v _) (.cons (.v _) (.cons (m26.rd (i := 102) rfl) .nil))) <| .nil) Try.underlying27 inf35a rfl rfl rfl rfl rfl ?_
      clear ha24 a24 m26; intro g25 a27 w27 ha27 m27 
      refine hK _ _ ?_; clear hK K
      have m29 := m27.freezeR 103 rfl; clear m27
      refine wpList_plain rfl (fun K hK => ?_)
      refine e_appR ha27 m29 3 rfl rfl rfl (m29.rd (i := 103) rfl) Try.underlying27 inf35a rfl rfl (by decide) (by simp; omega) rfl ?_
      clear ha27 a27 m29; intro p28 c28 a30 w30 ha30 m30 
      refine hK _ _ ?_; clear hK K
      refine st_y ha30 rfl (y_assign ha30 rfl) ?_
      clear ha30 a30; intro a31 ha31
      refine wpList_nil ?_
      refine hK6 _ _ ?_; clear hK6; try clear K6
      have ha32 : Has 22 [(3, _), (9, _), (10, _), (11, _)] a31 := ha31.only [3, 9, 10, 11]; clear ha31
      refine wp_region_lit ?_
      refine st_y ha32 rfl (y_add ha32 rfl rfl (r := ((k + 1 : Nat) : Int)) (by rw [IntWalk.i64_in _ (by omega)]; omega)) ?_
      clear ha32 a31; intro a33 ha33
      refine st_y ha33 rfl (y_move ha33 rfl) ?_
      clear ha33 a33; intro a34 ha34
      refine wpList_nil ?_
      show ∃ n', n' < _ ∧ _
      have hE : (fl.take k).map flD ++ [[D.v (.int .i64 ff), .v (.int .i64 ft), .ns .u8 fd]] = (fl.take (k + 1)).map flD := by rw [take_snoc hfl, List.map_append]; rfl
      rw [hE] at m30 ha34
      exact ⟨fl.length - (k + 1), by omega, k + 1, _, _, _, _, by omega, rfl, ha34.only [3, 9, 10, 11], m30.only [1, 2, 3]⟩
    · skip
      clear ha11
      try simp only [decide_eq_true_eq, decide_eq_false_iff_not, Bool.not_eq_true, Bool.not_eq_false, Bool.not_eq_eq_eq_not, Bool.not_true, Bool.not_false, Bool.not_not, Int.not_lt, Int.not_le, ne_eq, Decidable.not_not] at hb12
      obtain rfl : k = fl.length := by simp at hb12; omega
      refine wp_cond_false (ha12.ev (x := .tmp 12) rfl) ?_
      refine wp_exit ?_
      refine hK2 _ _ ?_; clear hK2; try clear K2
      refine wp_seq_k (fun K8 hK8 => ?_)
      refine wp_region_lit ?_
      refine st_y ha12 rfl (y_move ha12 rfl) ?_
      clear ha12 a11; intro a35 ha35
      refine st_y ha35 rfl (y_assign ha35 rfl) ?_
      clear ha35 a35; intro a36 ha36
      refine wpList_nil ?_
      refine hK8 _ _ ?_; clear hK8; try clear K8
      refine wp_ret ?_
      try dsimp only [Exit.then, Exit.inBlock]
      refine (ret1 (fn := Try.f16) ha36 rfl rfl ?_)
      rw [List.take_length] at *
      have m37 := m10.freezeR 3 rfl; clear m10
      exact ⟨_, _, _, rfl, m37.outP (i := 1) (j := 2) (by decide) rfl rfl hB.lt, m37.outPD (i := 1) (j := 2) (q := 3) rfl rfl rfl⟩
end Go.Proofs.Ytnllgfmjcnjgdaa.K
