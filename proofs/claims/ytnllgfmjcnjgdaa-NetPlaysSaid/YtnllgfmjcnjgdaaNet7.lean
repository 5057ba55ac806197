/- net with bytes of any number; the reference's pool; SameFlights. -/
import Derived.Test.YtnllgfmjcnjgdaaNet3
import Derived.Test.YtnllgfmjcnjgdaaAb11
namespace Go.Proofs.Ytnllgfmjcnjgdaa.K
open Go.ChangeShapes Go.WideShapes Go.ChangeAt Go.RowKit
set_option linter.unusedVariables false
set_option linter.unusedSimpArgs false

theorem inf35rs : (Try.prog.info? 35).map (fun i => (i.zero, i.size, i.bytes)) = some (some (.agg #[.int .i64 0, .int .i64 0, .slice none 0 0]), 3, 40) := by kernel_rfl
theorem sz27rs : (Try.prog.info? 27).map (·.size) = some 1 := by kernel_rfl
theorem fl35rt : flatS Try.prog 35 [.int .i64 0, .int .i64 0, .slice none 0 0] = true := by kernel_rfl
theorem inf35rt : (Try.prog.info? 35).map (fun i => (i.zero, i.size, i.bytes)) = some (some (.agg #[.int .i64 0, .int .i64 0, .slice none 0 0]), 3, 40) := by kernel_rfl
theorem sz27rt : (Try.prog.info? 27).map (·.size) = some 1 := by kernel_rfl
theorem sz35rt : (Try.prog.info? 35).map (·.size) = some 3 := by kernel_rfl
theorem zc35rt : ((Try.prog.info? 35).bind (·.zero)).map (·.cells.toList) = some [.int .i64 0, .int .i64 0, .slice none 0 0] := by kernel_rfl
theorem inf35rw : (Try.prog.info? 35).map (fun i => (i.zero, i.size, i.bytes)) = some (some (.agg #[.int .i64 0, .int .i64 0, .slice none 0 0]), 3, 40) := by kernel_rfl
theorem sz35rw : (Try.prog.info? 35).map (·.size) = some 3 := by kernel_rfl
theorem sz35rf : (Try.prog.info? 35).map (·.size) = some 3 := by kernel_rfl

theorem SrcOk.lenEq {S : Nat → Prop} {w : World} {p : Option Addr} {n n' c mm : Nat} {rows : List (List D)} (h : SrcOk S w (.slice p n c) mm rows) (e : n = n') : SrcOk S w (.slice p n' c) mm rows := e ▸ h
set_option maxRecDepth 100000
set_option maxHeartbeats 4000000
theorem copiedB_any (S : Nat → Prop) (f t : Int) (d : List Int) (p : Option Addr) (c : Nat) (w0 : World) (h0 : Rd S w0 (.slice p d.length c) (.ns .u8 d)) (hd : d.length ≤ 140737488351232) : Calls Try.prog 17 #[.agg #[.int .i64 f, .int .i64 t, .slice p d.length c]] w0 fun e w' => ∃ u c', e = .returned (.agg #[.int .i64 f, .int .i64 t, .slice u d.length c']) ∧ w'.ownsRow w0.heap.size 5 1 (.slice u d.length c') d.length (d.map (Value.int .u8)) ∧ Below w0.heap.size w0 w' := by
  refine enter (fn := Try.f17) Try.func17 rfl Try.ntmps17 rfl (fun a0 ha0 => ?_)
  simp only [List.zipIdx_cons, List.zipIdx_nil, List.map_cons, List.map_nil, Nat.reduceAdd, Nat.zero_add] at ha0
  have m0 := (MemOk.start (fun _ => True) w0).dat 1 rfl (h0.cast (fun _ h => free_nil (fun _ => trivial)))
  refine wp_seq_k (fun K0 hK0 => ?_)
  refine wp_region_lit ?_
  refine wpList_plain rfl (fun K hK => ?_)
  refine e_box ha0 m0 2 (cs := [_, _, _]) rfl rfl rfl ?_
  clear ha0 a0 m0; intro g1 a2 w2 ha2 m2 hB2 hg2
  clear hB2 hg2
  refine hK _ _ ?_; clear hK K
  refine wpList_plain rfl (fun K hK => ?_)
  refine e_alloc ha2 m2 3 zc35c rfl ?_
  clear ha2 a2 m2; intro g3 a4 w4 ha4 m4 hB4 hg4
  clear hB4 hg4
  refine hK _ _ ?_; clear hK K
  refine wpList_nil ?_
  refine hK0 _ _ ?_; clear hK0; try clear K0
  refine wp_seq_k (fun K1 hK1 => ?_)
  refine wp_region_lit ?_
  refine st_y ha4 rfl (y_fieldAddr ha4 (off := 2) rfl Try.underlying35 rfl (s := 0) (by kernel_rfl) rfl) ?_
  clear ha4 a4; intro a5 ha5
  refine st_y ha5 rfl (y_loadB1 ha5 m4 (i := 2) rfl rfl rfl Try.underlying33 rfl) ?_
  clear ha5 a5; intro a6 ha6
  refine wpList_plain rfl (fun K hK => ?_)
  refine e_app0M ha6 m4 4 rfl rfl (m4.nums (i := 1) rfl) Try.underlying33 inf5c (by decide) (by omega) rfl ?_
  clear ha6 a6 m4; intro p7 c7 a8 w8 ha8 m8 
  refine hK _ _ ?_; clear hK K
  refine st_y ha8 rfl (y_fieldAddr ha8 (off := 2) rfl Try.underlying35 rfl (s := 0) (by kernel_rfl) rfl) ?_
  clear ha8 a8; intro a9 ha9
  refine wpList_plain rfl (fun K hK => ?_)
  refine e_store1 ha9 m8 2 rfl rfl rfl rfl rfl sz33c (by dsimp only [List.set] <;> rfl) ?_
  clear m8; intro w10 m10 hB10
  clear hB10
  refine hK _ _ ?_; clear hK K
  refine wpList_nil ?_
  refine hK1 _ _ ?_; clear hK1; try clear K1
  refine wp_seq_k (fun K2 hK2 => ?_)
  refine wp_region_lit ?_
  refine st_y ha9 rfl (y_loadBR ha9 m10 (i := 2) rfl rfl Try.underlying35 rfl sz35c (by simp) (by dsimp only [List.drop, List.take] <;> rfl)) ?_
  clear ha9 a9; intro a11 ha11
  refine wpList_plain rfl (fun K hK => ?_)
  refine e_storeW ha11 m10 3 rfl rfl rfl rfl rfl sz35c ?_
  clear m10; intro w12 m12 hB12
  clear hB12
  refine hK _ _ ?_; clear hK K
  refine wpList_nil ?_
  refine hK2 _ _ ?_; clear hK2; try clear K2
  refine wp_ret ?_
  try dsimp only [Exit.then, Exit.inBlock]
  refine (retC (fn := Try.f17) ha11 m12 (i := 3) rfl rfl rfl Try.underlying35 rfl sz35c ?_)
  exact ⟨_, _, rfl, m12.outN (i := 4) rfl, m12.below⟩
theorem sendB_any (S : Nat → Prop) (B : Nat) (v0 : Value) (rows : List (List D)) (fl : List (Int × Int × List Int)) (pl : Option Addr) (cl : Nat) (w0 : World) (hB : Blk w0 B 48 [v0]) (hs : SegOk (fun b => S b ∧ b ≠ B ∧ v0.ownBlock ≠ some b) w0 v0 35 3 rows) (hne : v0.ownBlock ≠ some B) (hl : Rd (fun b => S b ∧ b ≠ B ∧ v0.ownBlock ≠ some b) w0 (.slice pl fl.length cl) (.l 3 (fl.map flD))) (hn : rows.length ≤ 1000 ∧ fl.length ≤ 1000) (hfd : ∀ f ∈ fl, f.2.2.length ≤ 140737488351232) :
    Calls Try.prog 8 #[.pointer (some ⟨B, 0, none⟩), .slice pl fl.length cl] w0 fun e w' => e = .returned (.tuple #[]) ∧ ∃ v', PoolAt S w0 B 48 35 3 v0 (rows ++ fl.map flD) w' v' := by
  refine enter (fn := Try.f8) Try.func8 rfl Try.ntmps8 rfl (fun a0 ha0 => ?_)
  simp only [List.zipIdx_cons, List.zipIdx_nil, List.map_cons, List.map_nil, Nat.reduceAdd, Nat.zero_add] at ha0
  have m00 := (MemOk.startP S w0 hB hs hne).dat 3 rfl (hl.cast (fun b h => freeP h))
  obtain ⟨p, c, hv⟩ := hs.shape
  have hR0 : rows ++ (fl.take 0).map flD = rows := by simp
  have m0 : MemOk (cxp S w0 B v0) w0 [(1, .box B 48 [.slice p (rows ++ (fl.take 0).map flD).length c]), (2, .seg (.slice p (rows ++ (fl.take 0).map flD).length c) 35 3 (rows ++ (fl.take 0).map flD)), (3, .dat (.slice pl fl.length cl) (.l 3 (fl.map flD)))] w0 := by
    rw [hR0, ← hv]; exact m00.only [1, 2, 3]
  clear m00
  refine wp_seq_k (fun K0 hK0 => ?_)
  refine wp_region_lit ?_
  refine st_y ha0 rfl (y_move ha0 rfl) ?_
  clear ha0 a0; intro a1 ha1
  refine st_y ha1 rfl (y_len ha1 rfl Try.underlying27) ?_
  clear ha1 a1; intro a2 ha2
  refine st_y ha2 rfl (y_move ha2 rfl) ?_
  clear ha2 a2; intro a3 ha3
  refine wpList_nil ?_
  refine hK0 _ _ ?_; clear hK0; try clear K0
  refine wp_block ?_
  refine wp_loop_ghost (fun g a w => ∃ (k : Nat) (p pl : Option Addr) (c cl : Nat), k ≤ fl.length ∧ g = fl.length - k ∧ Has 24 [(0, .pointer (some ⟨B, 0, none⟩)), (6, .slice pl fl.length cl), (7, .int .i64 fl.length), (8, .int .i64 k)] a ∧ MemOk (cxp S w0 B v0) w0 [(1, .box B 48 [.slice p (rows ++ (fl.take k).map flD).length c]), (2, .seg (.slice p (rows ++ (fl.take k).map flD).length c) 35 3 (rows ++ (fl.take k).map flD)), (3, .dat (.slice pl fl.length cl) (.l 3 (fl.map flD)))] w) (fl.length) ?_ ?_
  · exact ⟨0, _, _, _, _, Nat.zero_le _, rfl, ha3.only [0, 6, 7, 8], m0.only [1, 2, 3]⟩
  · skip
    clear ha3 m0
    rintro g a4 w4 ⟨k, p, pl, c, cl, hkl, hg, ha4, m4⟩
    refine wp_seq_k (fun K1 hK1 => ?_)
    refine wp_region_lit ?_
    refine st_y ha4 rfl (y_lss ha4 rfl rfl) ?_
    clear ha4 a4; intro a5 ha5
    refine wpList_nil ?_
    refine hK1 _ _ ?_; clear hK1; try clear K1
    refine wp_seq_k (fun K2 hK2 => ?_)
    refine bool_cases ha5 (t := 9) rfl (fun hb6 ha6 => ?_) (fun hb6 ha6 => ?_)
    · skip
      clear ha5
      try simp only [decide_eq_true_eq, decide_eq_false_iff_not, Bool.not_eq_true, Bool.not_eq_false, Bool.not_eq_eq_eq_not, Bool.not_true, Bool.not_false, Bool.not_not, Int.not_lt, Int.not_le, ne_eq, Decidable.not_not] at hb6
      have hk : k < fl.length := by omega
      obtain ⟨⟨ff, ft, fd⟩, hfl⟩ : ∃ e, fl[k]? = some e := ⟨_, List.getElem?_eq_getElem hk⟩
      have hfd1 := hfd _ (List.mem_of_getElem? hfl)
      dsimp only at hfd1
      refine wp_cond_true (ha6.ev (x := .tmp 9) rfl) ?_
      refine wp_skip ?_
      refine hK2 _ _ ?_; clear hK2; try clear K2
      refine wp_seq_k (fun K3 hK3 => ?_)
      refine wp_block ?_
      refine wp_seq_k (fun K4 hK4 => ?_)
      refine wp_region_lit ?_
      obtain ⟨b7, o7, vs7, hp7, hR7, ho7, m7⟩ := m4.openR (i := 3) rfl (k) (r := [.v (.int .i64 ff), .v (.int .i64 ft), .ns .u8 fd]) (fl_get hfl) 100 rfl
      cases hp7; clear m4 ho7
      rcases hR7 with _ | ⟨hd7_0, _ | ⟨hd7_1, _ | ⟨hd7_2, _ | _⟩⟩⟩
      obtain rfl := hd7_0.v_out
      clear hd7_0
      obtain rfl := hd7_1.v_out
      clear hd7_1
      obtain ⟨p8, c8, hv8, hc8⟩ := hd7_2.ns_shape; subst hv8
      have m8 := m7.dat 101 rfl (hd7_2.cast (fun _ h => (free_add rfl h))); clear m7 hd7_2
      refine st_y ha6 rfl (y_idx ha6 rfl rfl Try.underlying27 sz35s (k) rfl hk) ?_
      clear ha6 a5; intro a9 ha9
      refine st_y ha9 rfl (y_loadCR ha9 m8 (i := 100) rfl rfl Try.underlying35 rfl sz35s) ?_
      clear ha9 a9; intro a10 ha10
      refine wpList_plain rfl (fun K hK => ?_)
      refine e_alloc ha10 m8 102 zc35s rfl ?_
      clear ha10 a10 m8; intro g11 a12 w12 ha12 m12 hB12 hg12
      clear hB12 hg12
      refine hK _ _ ?_; clear hK K
      refine wpList_plain rfl (fun K hK => ?_)
      refine e_storeW ha12 m12 102 rfl rfl rfl rfl rfl sz35s ?_
      clear m12; intro w13 m13 hB13
      clear hB13
      refine hK _ _ ?_; clear hK K
      refine wpList_nil ?_
      refine hK4 _ _ ?_; clear hK4; try clear K4
      have m14 : MemOk _ _ [(1, _), (2, _), (3, _), (100, _), (101, _), (102, _)] _ := m13.only [1, 2, 3, 100, 101, 102]; clear m13
      refine region_m 8 (B := [(1, _), (2, _), (3, _), (100, _), (101, _), (102, _)]) (m14.to ⟨.inl rfl, .inl rfl, .inl rfl, .inl rfl, .inl rfl, .inl rfl, trivial⟩) m14 (by kernel_rfl) (fun w15 mB15 m15 => ?_); clear m14 mB15
      refine d_y 0 ha12 rfl rfl (fun _ => (m15.to ⟨.inl rfl, .inl rfl, .inl rfl, .inl rfl, .inl rfl, .inl rfl, trivial⟩)) (by kernel_rfl) (by kernel_rfl) (by kernel_rfl) (by rfl) (fun _ _ _ h => h) (fun W => y_move ha12 rfl) ?_
      clear ha12 a12; intro a16 ha16
      refine d_y 1 ha16 rfl rfl (fun _ => (m15.to ⟨.inl rfl, .inl rfl, .inl rfl, .inl rfl, .inl rfl, .inl rfl, trivial⟩)) (by kernel_rfl) (by kernel_rfl) (by kernel_rfl) (by rfl) (fun _ _ _ h => h) (fun W => y_move ha16 rfl) ?_
      clear ha16 a16; intro a17 ha17
      refine d_y 2 ha17 rfl rfl (fun _ => (m15.to ⟨.inl rfl, .inl rfl, .inl rfl, .inl rfl, .inl rfl, .inl rfl, trivial⟩)) (by kernel_rfl) (by kernel_rfl) (by kernel_rfl) (by rfl) (fun _ _ _ h => h) (fun W => y_nilCheck ha17 rfl) ?_
      clear ha17 a17; intro a18 ha18
      refine d_y 3 ha18 rfl rfl (fun _ => (m15.to ⟨.inl rfl, .inl rfl, .inl rfl, .inl rfl, .inl rfl, .inl rfl, trivial⟩)) (by kernel_rfl) (by kernel_rfl) (by kernel_rfl) (by rfl) (fun _ _ _ h => h) (fun W => y_fieldAddr ha18 (off := 0) rfl Try.underlying48 rfl (s := 0) (by kernel_rfl) rfl) ?_
      clear ha18 a18; intro a19 ha19
      refine d_r 4 ha19 rfl rfl (m15.to ⟨.inl rfl, .inl rfl, .inl rfl, .inl rfl, .inl rfl, .inl rfl, trivial⟩) (by kernel_rfl) (by kernel_rfl) (by kernel_rfl) (by kernel_rfl) (by kernel_rfl) (fun _ _ _ h => h) (fun W hW => y_loadB1 ha19 hW (i := 1) rfl rfl rfl Try.underlying27 rfl) ?_
      clear ha19 a19; intro a20 ha20
      refine d_r 5 ha20 rfl rfl (m15.to ⟨.inl rfl, .inl rfl, .inl rfl, .inl rfl, .inl rfl, .inl rfl, trivial⟩) (by kernel_rfl) (by kernel_rfl) (by kernel_rfl) (by kernel_rfl) (by kernel_rfl) (fun _ _ _ h => h) (fun W hW => y_loadBR ha20 hW (i := 102) rfl rfl Try.underlying35 rfl sz35s (by simp) (by dsimp only [List.drop, List.take] <;> rfl)) ?_
      clear ha20 a20; intro a21 ha21
      refine stepE_only 6 rfl (by kernel_rfl) rfl (fun K hK => ?_)
      refine e_call ha21 Try.func17 rfl rfl rfl rfl (copiedB_any _ _ _ _ _ _ _ (m15.rd (i := 101) rfl).any hfd1) ?_
      rintro e w22 ⟨u22, c22, rfl, ho22, hb22⟩
      have m23 := m15.newN 103 hb22 ho22
      clear m15
      clear hb22 ho22
      refine ⟨_, rfl, fun a24 ha24 => ?_⟩; clear ha21 a21
      refine hK _ _ (m23.to ⟨.inl rfl, .inl rfl, .inl rfl, .inl rfl, .inl rfl, .inl rfl, trivial⟩) ?_; clear hK K
      have m26 := m23.freezeN 103 rfl; clear m23
      refine stepE_only 7 rfl (by kernel_rfl) rfl (fun K hK => ?_)
      refine e_litR ha24 m26 104 (mm := 3) rfl (.cons rfl rfl (.cons (.v _) (.cons (.v _) (.cons (m26.rd (i := 103) rfl) .nil))) <| .nil) Try.underlying27 inf35s rfl rfl rfl rfl rfl ?_
      clear ha24 a24 m26; intro g25 a27 w27 ha27 m27 
      refine hK _ _ (m27.to ⟨.inl rfl, .inl rfl, .inl rfl, .inl rfl, .inl rfl, .inl rfl, trivial⟩) ?_; clear hK K
      have m29 := m27.freezeR 104 rfl; clear m27
      refine stepE_end 8 rfl (by kernel_rfl) rfl (by rfl) (fun K hK => ?_)
      refine e_appSA ha27 m29 2 rfl rfl rfl (m29.rd (i := 104) rfl).cells Try.underlying27 inf35s rfl rfl (by decide) (by simp; omega) rfl ?_
      clear ha27 a27 m29; intro p28 c28 a30 w30 ha30 m30 
      refine hK _ _ ?_; clear hK K
      refine d_y 9 ha30 rfl rfl (fun h => (Bool.false_ne_true (h.symm.trans (by rfl))).elim) (by kernel_rfl) (by kernel_rfl) (by kernel_rfl) (by rfl) (fun _ _ _ h => h) (fun W => y_nilCheck ha30 rfl) ?_
      clear ha30 a30; intro a31 ha31
      refine d_y 10 ha31 rfl rfl (fun h => (Bool.false_ne_true (h.symm.trans (by rfl))).elim) (by kernel_rfl) (by kernel_rfl) (by kernel_rfl) (by rfl) (fun _ _ _ h => h) (fun W => y_fieldAddr ha31 (off := 0) rfl Try.underlying48 rfl (s := 0) (by kernel_rfl) rfl) ?_
      clear ha31 a31; intro a32 ha32
      refine stepE_end 11 rfl (by kernel_rfl) rfl (by rfl) (fun K hK => ?_)
      refine e_store1 ha32 m30 1 rfl rfl rfl rfl rfl sz27s (by dsimp only [List.set] <;> rfl) ?_
      clear m30; intro w33 m33 hB33
      clear hB33
      refine hK _ _ ?_; clear hK K
      refine wpAnyE_done (by kernel_rfl) ?_ _
      refine hK3 _ _ ?_; clear hK3; try clear K3
      have ha34 : Has 24 [(0, _), (6, _), (7, _), (8, _)] a32 := ha32.only [0, 6, 7, 8]; clear ha32
      refine wp_region_lit ?_
      refine st_y ha34 rfl (y_add ha34 rfl rfl (r := ((k + 1 : Nat) : Int)) (by rw [IntWalk.i64_in _ (by omega)]; omega)) ?_
      clear ha34 a32; intro a35 ha35
      refine st_y ha35 rfl (y_move ha35 rfl) ?_
      clear ha35 a35; intro a36 ha36
      refine wpList_nil ?_
      show ∃ n', n' < _ ∧ _
      have hE : (rows ++ (fl.take k).map flD) ++ [[D.v (.int .i64 ff), .v (.int .i64 ft), .ns .u8 fd]] = rows ++ (fl.take (k + 1)).map flD := by rw [take_snoc hfl, List.map_append, ← List.append_assoc]; rfl
      rw [hE] at m33
      exact ⟨fl.length - (k + 1), by omega, k + 1, _, _, _, _, by omega, rfl, ha36.only [0, 6, 7, 8], m33.only [1, 2, 3]⟩
    · skip
      clear ha5
      try simp only [decide_eq_true_eq, decide_eq_false_iff_not, Bool.not_eq_true, Bool.not_eq_false, Bool.not_eq_eq_eq_not, Bool.not_true, Bool.not_false, Bool.not_not, Int.not_lt, Int.not_le, ne_eq, Decidable.not_not] at hb6
      obtain rfl : k = fl.length := by omega
      refine wp_cond_false (ha6.ev (x := .tmp 9) rfl) ?_
      refine wp_exit ?_
      try dsimp only [Exit.then]
      try refine out_here ?_
      refine (ret0 (fn := Try.f8) ha6 rfl ?_)
      rw [List.take_length] at m4
      exact ⟨rfl, _, m4.outP (i := 1) (j := 2) (by decide) rfl rfl hB.lt⟩
theorem twiceB_yes (S : Nat → Prop) (B : Nat) (p0 : Option Addr) (c0 k : Nat) (fl : List (Int × Int × List Int)) (ff ft : Int) (fd : List Int) (w0 : World) (hB : Blk w0 B 48 [.slice p0 (fl.map flD).length c0]) (hs : SegOk (fun b => S b ∧ b ≠ B ∧ (Value.slice p0 (fl.map flD).length c0).ownBlock ≠ some b) w0 (.slice p0 (fl.map flD).length c0) 35 3 (fl.map flD)) (hne : (Value.slice p0 (fl.map flD).length c0).ownBlock ≠ some B) (hn : fl.length ≤ 900) (hfl : fl[k]? = some (ff, ft, fd)) (hfd1 : fd.length ≤ 140737488351232) :
    Calls Try.prog 13 #[.pointer (some ⟨B, 0, none⟩), .int .i64 (k : Int)] w0 fun e w' => ∃ v', e = .returned (.bool true) ∧ PoolAt S w0 B 48 35 3 (.slice p0 (fl.map flD).length c0) ((fl ++ [(ff, ft, fd)]).map flD) w' v' := by
  have hk := (List.getElem?_eq_some_iff.1 hfl).1
  refine enter (fn := Try.f13) Try.func13 rfl Try.ntmps13 rfl (fun a0 ha0 => ?_)
  simp only [List.zipIdx_cons, List.zipIdx_nil, List.map_cons, List.map_nil, Nat.reduceAdd, Nat.zero_add] at ha0
  have m0 := MemOk.startP S w0 hB hs hne
  refine wp_seq_k (fun K0 hK0 => ?_)
  refine wp_region_lit ?_
  refine st_y ha0 rfl (y_assign ha0 rfl) ?_
  clear ha0 a0; intro a1 ha1
  refine wpList_nil ?_
  refine hK0 _ _ ?_; clear hK0; try clear K0
  refine wp_seq_k (fun K1 hK1 => ?_)
  refine wp_seq_k (fun K2 hK2 => ?_)
  refine wp_region_lit ?_
  refine st_y ha1 rfl (y_move ha1 rfl) ?_
  clear ha1 a1; intro a2 ha2
  refine st_y ha2 rfl (y_move ha2 rfl) ?_
  clear ha2 a2; intro a3 ha3
  refine wpList_plain rfl (fun K hK => ?_)
  refine e_call ha3 Try.func18 rfl rfl rfl rfl (has_any _ _ _ _ _ _ (m0.ok 1 _ rfl : Res.ok _ _ _ _ (.box _ _ _)).1) ?_
  rintro e w4 ⟨rfl, hb4⟩
  have m5 := m0.later hb4
  clear m0
  clear hb4
  refine ⟨_, rfl, fun a6 ha6 => ?_⟩; clear ha3 a3
  refine hK _ _ ?_; clear hK K
  refine st_y ha6 rfl (y_not ha6 rfl) ?_
  clear ha6 a6; intro a7 ha7
  refine wpList_nil ?_
  refine hK2 _ _ ?_; clear hK2; try clear K2
  refine bool_cases ha7 (t := 8) rfl (fun hb8 ha8 => ?_) (fun hb8 ha8 => ?_)
  · exact absurd hb8 (by simp; omega)
  clear ha7 hb8
  refine wp_cond_false (ha8.ev (x := .tmp 8) rfl) ?_
  refine wp_skip ?_
  refine hK1 _ _ ?_; clear hK1; try clear K1
  refine wp_seq_k (fun K3 hK3 => ?_)
  refine wp_region_lit ?_
  refine st_y ha8 rfl (y_move ha8 rfl) ?_
  clear ha8 a7; intro a9 ha9
  refine st_y ha9 rfl (y_move ha9 rfl) ?_
  clear ha9 a9; intro a10 ha10
  refine st_y ha10 rfl (y_nilCheck ha10 rfl) ?_
  clear ha10 a10; intro a11 ha11
  refine st_y ha11 rfl (y_fieldAddr ha11 (off := 0) rfl Try.underlying48 rfl (s := 0) (by kernel_rfl) rfl) ?_
  clear ha11 a11; intro a12 ha12
  refine st_y ha12 rfl (y_loadB1 ha12 m5 (i := 1) rfl rfl rfl Try.underlying27 rfl) ?_
  clear ha12 a12; intro a13 ha13
  refine st_y ha13 rfl (y_move ha13 rfl) ?_
  clear ha13 a13; intro a14 ha14
  obtain ⟨gs15, os15, vs15, hp15, hl15, hR15, hrg15⟩ := m5.openS (i := 2) rfl (k) (r := [.v (.int .i64 ff), .v (.int .i64 ft), .ns .u8 fd]) (fl_get hfl)
  cases hp15; clear hl15
  rcases hR15 with _ | ⟨hd15_0, _ | ⟨hd15_1, _ | ⟨hd15_2, _ | _⟩⟩⟩
  obtain rfl := hd15_0.v_out
  clear hd15_0
  obtain rfl := hd15_1.v_out
  clear hd15_1
  obtain ⟨p16, c16, hv16, hw16⟩ := hd15_2.ns_shape; subst hv16
  have m16 := m5.dat 3 rfl (hd15_2.cast (fun _ h => h)); clear m5 hd15_2
  refine st_y ha14 rfl (y_idx ha14 rfl rfl Try.underlying27 sz35w (k) rfl (by simp; omega)) ?_
  clear ha14 a14; intro a17 ha17
  refine st_y ha17 rfl (y_loadAt ha17 hrg15 rfl Try.underlying35 rfl sz35w) ?_
  clear ha17 a17; intro a18 ha18
  refine wpList_plain rfl (fun K hK => ?_)
  refine e_litR ha18 m16 4 (mm := 3) rfl (.cons rfl rfl (.cons (.v _) (.cons (.v _) (.cons (m16.rd (i := 3) rfl) .nil))) <| .nil) Try.underlying27 inf35w rfl rfl rfl rfl rfl ?_
  clear ha18 a18 m16; intro g19 a20 w20 ha20 m20 
  refine hK _ _ ?_; clear hK K
  have m21 := m20.freezeR 4 rfl; clear m20
  refine wpList_plain rfl (fun K hK => ?_)
  refine e_call ha20 Try.func8 rfl rfl rfl rfl (sendB_any _ _ _ _ [(ff, ft, fd)] _ _ _ (m21.ok 1 _ rfl : Res.ok _ _ _ _ (.box _ _ _)).1 (m21.segP (i := 1) (j := 2) rfl rfl) (m21.neP (i := 1) (j := 2) (by decide) rfl rfl) ((m21.rd (i := 4) rfl).cast (fun b hF => ⟨hF, fun h => hF.2 ⟨1, _, rfl, by rw [h]; rfl⟩, fun h => hF.2 ⟨2, _, rfl, h⟩⟩)) (by simp; omega) (by simpa using hfd1)) ?_
  rintro e w22 ⟨rfl, v22, hp22⟩
  have m23 := m21.callP 1 2 (by decide) rfl rfl hp22
  clear m21
  obtain ⟨p22, c22, hv22⟩ := hp22.2.1.shape
  subst hv22
  clear hp22
  refine ⟨_, rfl, fun a24 ha24 => ?_⟩; clear ha20 a20
  refine hK _ _ ?_; clear hK K
  refine wpList_nil ?_
  refine hK3 _ _ ?_; clear hK3; try clear K3
  refine wp_seq_k (fun K4 hK4 => ?_)
  have ha25 : Has 19 [(4, _)] a24 := ha24.only [4]; clear ha24
  refine wp_region_lit ?_
  refine st_y ha25 rfl (y_assign ha25 rfl) ?_
  clear ha25 a24; intro a26 ha26
  refine wpList_nil ?_
  refine hK4 _ _ ?_; clear hK4; try clear K4
  refine wp_ret ?_
  try dsimp only [Exit.then, Exit.inBlock]
  refine (ret1 (fn := Try.f13) ha26 rfl rfl ?_)
  exact ⟨_, rfl, by rw [List.map_append]; exact m23.outP (i := 1) (j := 2) (by decide) rfl rfl hB.lt⟩
theorem allB_any (S : Nat → Prop) (B : Nat) (v0 : Value) (fl : List (Int × Int × List Int)) (w0 : World) (hB : Blk w0 B 48 [v0]) (hs : SegOk (fun b => S b ∧ b ≠ B ∧ v0.ownBlock ≠ some b) w0 v0 35 3 (fl.map flD)) (hne : v0.ownBlock ≠ some B) (hn : fl.length ≤ 1000) (hfd : ∀ f ∈ fl, f.2.2.length ≤ 140737488351232) :
    Calls Try.prog 16 #[.pointer (some ⟨B, 0, none⟩)] w0 fun e w' => ∃ v' p' c', e = .returned (.slice p' (fl.map flD).length c') ∧ PoolAt S w0 B 48 35 3 v0 (fl.map flD) w' v' ∧ Rd (fun b => (S b ∨ w0.heap.size ≤ b) ∧ b ≠ B ∧ v'.ownBlock ≠ some b) w' (.slice p' (fl.map flD).length c') (.l 3 (fl.map flD)) := by
  refine enter (fn := Try.f16) Try.func16 rfl Try.ntmps16 rfl (fun a0 ha0 => ?_)
  simp only [List.zipIdx_cons, List.zipIdx_nil, List.map_cons, List.map_nil, Nat.reduceAdd, Nat.zero_add] at ha0
  have m00 := MemOk.startP S w0 hB hs hne
  obtain ⟨p1, c1, hv⟩ := hs.shape
  have m0 : MemOk (cxp S w0 B v0) w0 [(1, .box B 48 [.slice p1 (fl.map flD).length c1]), (2, .seg (.slice p1 (fl.map flD).length c1) 35 3 (fl.map flD))] w0 := by
    rw [← hv]; exact m00
  clear m00
  refine wp_seq_k (fun K0 hK0 => ?_)
  refine wp_region_lit ?_
  refine st_y ha0 rfl (y_assign ha0 rfl) ?_
  clear ha0 a0; intro a1 ha1
  refine wpList_nil ?_
  refine hK0 _ _ ?_; clear hK0; try clear K0
  refine wp_seq_k (fun K1 hK1 => ?_)
  refine wp_region_lit ?_
  have m2 := m0.nilR 3 35 3
  clear m0
  refine st_y ha1 rfl (y_assign ha1 rfl) ?_
  clear ha1 a1; intro a3 ha3
  refine wpList_nil ?_
  refine hK1 _ _ ?_; clear hK1; try clear K1
  refine wp_seq_k (fun K2 hK2 => ?_)
  refine wp_seq_k (fun K3 hK3 => ?_)
  refine wp_region_lit ?_
  refine st_y ha3 rfl (y_move ha3 rfl) ?_
  clear ha3 a3; intro a4 ha4
  refine st_y ha4 rfl (y_nilCheck ha4 rfl) ?_
  clear ha4 a4; intro a5 ha5
  refine st_y ha5 rfl (y_fieldAddr ha5 (off := 0) rfl Try.underlying48 rfl (s := 0) (by kernel_rfl) rfl) ?_
  clear ha5 a5; intro a6 ha6
  refine st_y ha6 rfl (y_loadB1 ha6 m2 (i := 1) rfl rfl rfl Try.underlying27 rfl) ?_
  clear ha6 a6; intro a7 ha7
  refine st_y ha7 rfl (y_len ha7 rfl Try.underlying27) ?_
  clear ha7 a7; intro a8 ha8
  refine st_y ha8 rfl (y_move ha8 rfl) ?_
  clear ha8 a8; intro a9 ha9
  refine wpList_nil ?_
  refine hK3 _ _ ?_; clear hK3; try clear K3
  refine wp_block ?_
  refine wp_loop_ghost (fun g a w => ∃ (k : Nat) (pp p : Option Addr) (cc c : Nat), k ≤ fl.length ∧ g = fl.length - k ∧ Has 22 [(3, .slice p ((fl.take k).map flD).length c), (9, .slice pp (fl.map flD).length cc), (10, .int .i64 (fl.map flD).length), (11, .int .i64 k)] a ∧ MemOk (cxp S w0 B v0) w0 [(1, .box B 48 [.slice pp (fl.map flD).length cc]), (2, .seg (.slice pp (fl.map flD).length cc) 35 3 (fl.map flD)), (3, .row (.slice p ((fl.take k).map flD).length c) 35 3 ((fl.take k).map flD))] w) (fl.length) ?_ ?_
  · exact ⟨0, _, _, _, _, Nat.zero_le _, rfl, ha9.only [3, 9, 10, 11], m2.only [1, 2, 3]⟩
  · skip
    clear ha9 m2
    rintro g a10 w10 ⟨k, pp, p, cc, c, hkl, hg, ha10, m10⟩
    refine wp_seq_k (fun K4 hK4 => ?_)
    refine wp_region_lit ?_
    refine st_y ha10 rfl (y_lss ha10 rfl rfl) ?_
    clear ha10 a10; intro a11 ha11
    refine wpList_nil ?_
    refine hK4 _ _ ?_; clear hK4; try clear K4
    refine wp_seq_k (fun K5 hK5 => ?_)
    refine bool_cases ha11 (t := 12) rfl (fun hb12 ha12 => ?_) (fun hb12 ha12 => ?_)
    · skip
      clear ha11
      try simp only [decide_eq_true_eq, decide_eq_false_iff_not, Bool.not_eq_true, Bool.not_eq_false, Bool.not_eq_eq_eq_not, Bool.not_true, Bool.not_false, Bool.not_not, Int.not_lt, Int.not_le, ne_eq, Decidable.not_not] at hb12
      have hk : k < fl.length := by simpa using hb12
      obtain ⟨⟨ff, ft, fd⟩, hfl⟩ : ∃ e, fl[k]? = some e := ⟨_, List.getElem?_eq_getElem hk⟩
      have hfd1 := hfd _ (List.mem_of_getElem? hfl)
      dsimp only at hfd1
      refine wp_cond_true (ha12.ev (x := .tmp 12) rfl) ?_
      refine wp_skip ?_
      refine hK5 _ _ ?_; clear hK5; try clear K5
      refine wp_seq_k (fun K6 hK6 => ?_)
      refine wp_block ?_
      refine wp_seq_k (fun K7 hK7 => ?_)
      refine wp_region_lit ?_
      obtain ⟨gs13, os13, vs13, hp13, hl13, hR13, hrg13⟩ := m10.openS (i := 2) rfl (k) (r := [.v (.int .i64 ff), .v (.int .i64 ft), .ns .u8 fd]) (fl_get hfl)
      cases hp13; clear hl13
      rcases hR13 with _ | ⟨hd13_0, _ | ⟨hd13_1, _ | ⟨hd13_2, _ | _⟩⟩⟩
      obtain rfl := hd13_0.v_out
      clear hd13_0
      obtain rfl := hd13_1.v_out
      clear hd13_1
      obtain ⟨p14, c14, hv14, hw14⟩ := hd13_2.ns_shape; subst hv14
      have m14 := m10.dat 100 rfl (hd13_2.cast (fun _ h => h)); clear m10 hd13_2
      refine st_y ha12 rfl (y_idx ha12 rfl rfl Try.underlying27 sz35a (k) rfl (by simp; omega)) ?_
      clear ha12 a11; intro a15 ha15
      refine st_y ha15 rfl (y_loadAt ha15 hrg13 rfl Try.underlying35 rfl sz35a) ?_
      clear ha15 a15; intro a16 ha16
      refine wpList_plain rfl (fun K hK => ?_)
      refine e_alloc ha16 m14 101 zc35a rfl ?_
      clear ha16 a16 m14; intro g17 a18 w18 ha18 m18 hB18 hg18
      clear hB18 hg18
      refine hK _ _ ?_; clear hK K
      refine wpList_plain rfl (fun K hK => ?_)
      refine e_storeW ha18 m18 101 rfl rfl rfl rfl rfl sz35a ?_
      clear m18; intro w19 m19 hB19
      clear hB19
      refine hK _ _ ?_; clear hK K
      refine wpList_nil ?_
      refine hK7 _ _ ?_; clear hK7; try clear K7
      refine wp_region_lit ?_
      refine st_y ha18 rfl (y_move ha18 rfl) ?_
      clear ha18 a18; intro a20 ha20
      refine st_y ha20 rfl (y_loadBR ha20 m19 (i := 101) rfl rfl Try.underlying35 rfl sz35a (by simp) (by dsimp only [List.drop, List.take] <;> rfl)) ?_
      clear ha20 a20; intro a21 ha21
      refine wpList_plain rfl (fun K hK => ?_)
      refine e_call ha21 Try.func17 rfl rfl rfl rfl (copiedB_any _ _ _ _ _ _ _ (m19.rd (i := 100) rfl).any hfd1) ?_
      rintro e w22 ⟨u22, c22, rfl, ho22, hb22⟩
      have m23 := m19.newN 102 hb22 ho22
      clear m19
      clear hb22 ho22
      refine ⟨_, rfl, fun a24 ha24 => ?_⟩; clear ha21 a21
      refine hK _ _ ?_; clear hK K
      have m26 := m23.freezeN 102 rfl; clear m23
      refine wpList_plain rfl (fun K hK => ?_)
      refine e_litR ha24 m26 103 (mm := 3) rfl (.cons rfl rfl (.cons (.v _) (.cons (.v _) (.cons (m26.rd (i := 102) rfl) .nil))) <| .nil) Try.underlying27 inf35a rfl rfl rfl rfl rfl ?_
      clear ha24 a24 m26; intro g25 a27 w27 ha27 m27 
      refine hK _ _ ?_; clear hK K
      have m29 := m27.freezeR 103 rfl; clear m27
      refine wpList_plain rfl (fun K hK => ?_)
      refine e_appR ha27 m29 3 rfl rfl rfl (m29.rd (i := 103) rfl) Try.underlying27 inf35a rfl rfl (by decide) (by simp; omega) rfl ?_
      clear ha27 a27 m29; intro p28 c28 a30 w30 ha30 m30 
      refine hK _ _ ?_; clear hK K
      refine st_y ha30 rfl (y_assign ha30 rfl) ?_
      clear ha30 a30; intro a31 ha31
      refine wpList_nil ?_
      refine hK6 _ _ ?_; clear hK6; try clear K6
      have ha32 : Has 22 [(3, _), (9, _), (10, _), (11, _)] a31 := ha31.only [3, 9, 10, 11]; clear ha31
      refine wp_region_lit ?_
      refine st_y ha32 rfl (y_add ha32 rfl rfl (r := ((k + 1 : Nat) : Int)) (by rw [IntWalk.i64_in _ (by omega)]; omega)) ?_
      clear ha32 a31; intro a33 ha33
      refine st_y ha33 rfl (y_move ha33 rfl) ?_
      clear ha33 a33; intro a34 ha34
      refine wpList_nil ?_
      show ∃ n', n' < _ ∧ _
      have hE : (fl.take k).map flD ++ [[D.v (.int .i64 ff), .v (.int .i64 ft), .ns .u8 fd]] = (fl.take (k + 1)).map flD := by rw [take_snoc hfl, List.map_append]; rfl
      rw [hE] at m30 ha34
      exact ⟨fl.length - (k + 1), by omega, k + 1, _, _, _, _, by omega, rfl, ha34.only [3, 9, 10, 11], m30.only [1, 2, 3]⟩
    · skip
      clear ha11
      try simp only [decide_eq_true_eq, decide_eq_false_iff_not, Bool.not_eq_true, Bool.not_eq_false, Bool.not_eq_eq_eq_not, Bool.not_true, Bool.not_false, Bool.not_not, Int.not_lt, Int.not_le, ne_eq, Decidable.not_not] at hb12
      obtain rfl : k = fl.length := by simp at hb12; omega
      refine wp_cond_false (ha12.ev (x := .tmp 12) rfl) ?_
      refine wp_exit ?_
      refine hK2 _ _ ?_; clear hK2; try clear K2
      refine wp_seq_k (fun K8 hK8 => ?_)
      refine wp_region_lit ?_
      refine st_y ha12 rfl (y_move ha12 rfl) ?_
      clear ha12 a11; intro a35 ha35
      refine st_y ha35 rfl (y_assign ha35 rfl) ?_
      clear ha35 a35; intro a36 ha36
      refine wpList_nil ?_
      refine hK8 _ _ ?_; clear hK8; try clear K8
      refine wp_ret ?_
      try dsimp only [Exit.then, Exit.inBlock]
      refine (ret1 (fn := Try.f16) ha36 rfl rfl ?_)
      rw [List.take_length] at *
      have m37 := m10.freezeR 3 rfl; clear m10
      exact ⟨_, _, _, rfl, m37.outP (i := 1) (j := 2) (by decide) rfl rfl hB.lt, m37.outPD (i := 1) (j := 2) (q := 3) rfl rfl rfl⟩
theorem rsend_any (S : Nat → Prop) (B : Nat) (v0 : Value) (rows : List (List D)) (fl : List (Int × Int × List Int)) (pl : Option Addr) (cl : Nat) (w0 : World) (hB : Blk w0 B 29 [v0]) (hs : SegOk (fun b => S b ∧ b ≠ B ∧ v0.ownBlock ≠ some b) w0 v0 35 3 rows) (hne : v0.ownBlock ≠ some B) (hl : Rd (fun b => S b ∧ b ≠ B ∧ v0.ownBlock ≠ some b) w0 (.slice pl fl.length cl) (.l 3 (fl.map flD))) (hn : rows.length ≤ 1000 ∧ fl.length ≤ 1000) :
    Calls Try.prog 9 #[.pointer (some ⟨B, 0, none⟩), .slice pl fl.length cl] w0 fun e w' => e = .returned (.tuple #[]) ∧ ∃ v', PoolAt S w0 B 29 35 3 v0 (rows ++ fl.map flD) w' v' := by
  refine enter (fn := Try.f9) Try.func9 rfl Try.ntmps9 rfl (fun a0 ha0 => ?_)
  simp only [List.zipIdx_cons, List.zipIdx_nil, List.map_cons, List.map_nil, Nat.reduceAdd, Nat.zero_add] at ha0
  have m00 := (MemOk.startP S w0 hB hs hne).dat 3 rfl (hl.cast (fun b h => freeP h))
  obtain ⟨p, c, hv⟩ := hs.shape
  have m0 : MemOk (cxp S w0 B v0) w0 [(1, .box B 29 [.slice p rows.length c]), (2, .seg (.slice p rows.length c) 35 3 rows), (3, .dat (.slice pl fl.length cl) (.l 3 (fl.map flD)))] w0 := by
    rw [← hv]; exact m00.only [1, 2, 3]
  clear m00
  refine wp_region_lit ?_
  refine st_y ha0 rfl (y_move ha0 rfl) ?_
  clear ha0 a0; intro a1 ha1
  refine st_y ha1 rfl (y_move ha1 rfl) ?_
  clear ha1 a1; intro a2 ha2
  refine st_y ha2 rfl (y_nilCheck ha2 rfl) ?_
  clear ha2 a2; intro a3 ha3
  refine st_y ha3 rfl (y_fieldAddr ha3 (off := 0) rfl Try.underlying29 rfl (s := 0) (by kernel_rfl) rfl) ?_
  clear ha3 a3; intro a4 ha4
  refine st_y ha4 rfl (y_loadB1 ha4 m0 (i := 1) rfl rfl rfl Try.underlying27 rfl) ?_
  clear ha4 a4; intro a5 ha5
  have m6 := m0.nilS 4 35 3; clear m0
  refine wpList_plain rfl (fun K hK => ?_)
  refine e_appSA ha5 m6 4 rfl rfl rfl (m6.srcS (i := 2) rfl) Try.underlying27 inf35rs rfl rfl (by decide) (by simp; omega) rfl ?_
  clear ha5 a5 m6; intro p7 c7 a8 w8 ha8 m8 
  refine hK _ _ ?_; clear hK K
  refine st_y ha8 rfl (y_move ha8 rfl) ?_
  clear ha8 a8; intro a9 ha9
  refine wpList_plain rfl (fun K hK => ?_)
  refine e_appSA ha9 m8 4 rfl rfl rfl (m8.rd (i := 3) rfl).cells Try.underlying27 inf35rs rfl rfl (by decide) (by simp; omega) rfl ?_
  clear ha9 a9 m8; intro p10 c10 a11 w11 ha11 m11 
  refine hK _ _ ?_; clear hK K
  refine st_y ha11 rfl (y_nilCheck ha11 rfl) ?_
  clear ha11 a11; intro a12 ha12
  refine st_y ha12 rfl (y_fieldAddr ha12 (off := 0) rfl Try.underlying29 rfl (s := 0) (by kernel_rfl) rfl) ?_
  clear ha12 a12; intro a13 ha13
  refine wpList_plain rfl (fun K hK => ?_)
  refine e_store1 ha13 m11 1 rfl rfl rfl rfl rfl sz27rs (by dsimp only [List.set] <;> rfl) ?_
  clear m11; intro w14 m14 hB14
  clear hB14
  refine hK _ _ ?_; clear hK K
  refine wpList_nil ?_
  try dsimp only [Exit.then]
  try refine out_here ?_
  refine (ret0 (fn := Try.f9) ha13 rfl ?_)
  rw [List.nil_append] at m14
  exact ⟨rfl, _, m14.outP (i := 1) (j := 4) (by decide) rfl rfl hB.lt⟩
theorem rtake_yes (S : Nat → Prop) (B : Nat) (p0 : Option Addr) (c0 k : Nat) (fl : List (Int × Int × List Int)) (ff ft : Int) (fd : List Int) (w0 : World) (hB : Blk w0 B 29 [.slice p0 (fl.map flD).length c0]) (hs : SegOk (fun b => S b ∧ b ≠ B ∧ (Value.slice p0 (fl.map flD).length c0).ownBlock ≠ some b) w0 (.slice p0 (fl.map flD).length c0) 35 3 (fl.map flD)) (hne : (Value.slice p0 (fl.map flD).length c0).ownBlock ≠ some B) (hn : fl.length ≤ 1000) (hfl : fl[k]? = some (ff, ft, fd)) :
    Calls Try.prog 11 #[.pointer (some ⟨B, 0, none⟩), .int .i64 (k : Int)] w0 fun e w' => ∃ v' p' c', e = .returned (.tuple #[.agg #[.int .i64 ff, .int .i64 ft, .slice p' fd.length c'], .bool true]) ∧ PoolAt S w0 B 29 35 3 (.slice p0 (fl.map flD).length c0) ((fl.eraseIdx k).map flD) w' v' ∧ Rd (fun b => (S b ∨ w0.heap.size ≤ b) ∧ b ≠ B ∧ v'.ownBlock ≠ some b) w' (.slice p' fd.length c') (.ns .u8 fd) := by
  have hk := (List.getElem?_eq_some_iff.1 hfl).1
  refine enter (fn := Try.f11) Try.func11 rfl Try.ntmps11 rfl (fun a0 ha0 => ?_)
  simp only [List.zipIdx_cons, List.zipIdx_nil, List.map_cons, List.map_nil, Nat.reduceAdd, Nat.zero_add] at ha0
  have m0 := MemOk.startP S w0 hB hs hne
  refine wp_seq_k (fun K0 hK0 => ?_)
  refine wp_region_lit ?_
  refine wpList_plain rfl (fun K hK => ?_)
  refine e_alloc ha0 m0 3 zc35rt rfl ?_
  clear ha0 a0 m0; intro g1 a2 w2 ha2 m2 hB2 hg2
  clear hB2 hg2
  refine hK _ _ ?_; clear hK K
  refine st_y ha2 rfl (y_assign ha2 rfl) ?_
  clear ha2 a2; intro a3 ha3
  refine wpList_nil ?_
  refine hK0 _ _ ?_; clear hK0; try clear K0
  refine wp_seq_k (fun K1 hK1 => ?_)
  refine wp_seq_k (fun K2 hK2 => ?_)
  refine wp_region_lit ?_
  refine st_y ha3 rfl (y_move ha3 rfl) ?_
  clear ha3 a3; intro a4 ha4
  refine st_y ha4 rfl (y_lss ha4 rfl rfl) ?_
  clear ha4 a4; intro a5 ha5
  refine st_y ha5 rfl (y_move ha5 rfl) ?_
  clear ha5 a5; intro a6 ha6
  refine bool_cases ha6 (t := 9) rfl (fun hb7 ha7 => ?_) (fun hb7 ha7 => ?_)
  · exact absurd hb7 (by simp)
  clear ha6 hb7
  refine st_g ha7 rfl rfl rfl rfl (y_move ha7 rfl) ?_
  clear ha7 a6; intro a8 ha8
  refine st_g ha8 rfl rfl rfl rfl (y_move ha8 rfl) ?_
  clear ha8 a8; intro a9 ha9
  refine st_g ha9 rfl rfl rfl rfl (y_nilCheck ha9 rfl) ?_
  clear ha9 a9; intro a10 ha10
  refine st_g ha10 rfl rfl rfl rfl (y_fieldAddr ha10 (off := 0) rfl Try.underlying29 rfl (s := 0) (by kernel_rfl) rfl) ?_
  clear ha10 a10; intro a11 ha11
  refine st_g ha11 rfl rfl rfl rfl (y_loadB1 ha11 m2 (i := 1) rfl rfl rfl Try.underlying27 rfl) ?_
  clear ha11 a11; intro a12 ha12
  refine st_g ha12 rfl rfl rfl rfl (y_len ha12 rfl Try.underlying27) ?_
  clear ha12 a12; intro a13 ha13
  refine st_g ha13 rfl rfl rfl rfl (y_geq ha13 rfl rfl) ?_
  clear ha13 a13; intro a14 ha14
  refine st_y ha14 rfl (y_pickF ha14 rfl rfl) ?_
  clear ha14 a14; intro a15 ha15
  refine wpList_nil ?_
  refine hK2 _ _ ?_; clear hK2; try clear K2
  refine bool_cases ha15 (t := 17) rfl (fun hb16 ha16 => ?_) (fun hb16 ha16 => ?_)
  · exact absurd hb16 (by simp; omega)
  clear ha15 hb16
  refine wp_cond_false (ha16.ev (x := .tmp 17) rfl) ?_
  refine wp_skip ?_
  refine hK1 _ _ ?_; clear hK1; try clear K1
  refine wp_seq_k (fun K3 hK3 => ?_)
  have ha17 : Has 45 [(0, _), (1, _), (4, _), (5, _)] a15 := ha16.only [0, 1, 4, 5]; clear ha16
  refine wp_region_lit ?_
  refine st_y ha17 rfl (y_move ha17 rfl) ?_
  clear ha17 a15; intro a18 ha18
  refine st_y ha18 rfl (y_nilCheck ha18 rfl) ?_
  clear ha18 a18; intro a19 ha19
  refine st_y ha19 rfl (y_fieldAddr ha19 (off := 0) rfl Try.underlying29 rfl (s := 0) (by kernel_rfl) rfl) ?_
  clear ha19 a19; intro a20 ha20
  refine st_y ha20 rfl (y_loadB1 ha20 m2 (i := 1) rfl rfl rfl Try.underlying27 rfl) ?_
  clear ha20 a20; intro a21 ha21
  refine st_y ha21 rfl (y_move ha21 rfl) ?_
  clear ha21 a21; intro a22 ha22
  obtain ⟨gs23, os23, vs23, hp23, hl23, hR23, hrg23⟩ := m2.openS (i := 2) rfl (k) (r := [.v (.int .i64 ff), .v (.int .i64 ft), .ns .u8 fd]) (fl_get hfl)
  cases hp23; clear hl23
  rcases hR23 with _ | ⟨hd23_0, _ | ⟨hd23_1, _ | ⟨hd23_2, _ | _⟩⟩⟩
  obtain rfl := hd23_0.v_out
  clear hd23_0
  obtain rfl := hd23_1.v_out
  clear hd23_1
  obtain ⟨p24, c24, hv24, hw24⟩ := hd23_2.ns_shape; subst hv24
  have m24 := m2.dat 4 rfl (hd23_2.cast (fun _ h => h)); clear m2 hd23_2
  refine st_y ha22 rfl (y_idx ha22 rfl rfl Try.underlying27 sz35rt (k) rfl (by simp; omega)) ?_
  clear ha22 a22; intro a25 ha25
  refine st_y ha25 rfl (y_loadAt ha25 hrg23 rfl Try.underlying35 rfl sz35rt) ?_
  clear ha25 a25; intro a26 ha26
  refine wpList_plain rfl (fun K hK => ?_)
  refine e_alloc ha26 m24 5 zc35rt rfl ?_
  clear ha26 a26 m24; intro g27 a28 w28 ha28 m28 hB28 hg28
  clear hB28 hg28
  refine hK _ _ ?_; clear hK K
  refine wpList_plain rfl (fun K hK => ?_)
  refine e_storeW ha28 m28 5 rfl rfl rfl rfl rfl sz35rt ?_
  clear m28; intro w29 m29 hB29
  clear hB29
  refine hK _ _ ?_; clear hK K
  refine wpList_nil ?_
  refine hK3 _ _ ?_; clear hK3; try clear K3
  refine wp_seq_k (fun K4 hK4 => ?_)
  have ha30 : Has 45 [(0, _), (1, _), (4, _), (5, _), (6, _)] a28 := ha28.only [0, 1, 4, 5, 6]; clear ha28
  have hcap := m29.capS (i := 2) rfl
  have m31 : MemOk _ _ [(1, _), (2, _), (3, _), (4, _), (5, _)] _ := m29.only [1, 2, 3, 4, 5]; clear m29
  refine region_m 18 (B := [(1, _), (2, _), (3, _), (4, _), (5, _)]) (m31.to ⟨.inl rfl, .inl rfl, .inl rfl, .inl rfl, .inl rfl, trivial⟩) m31 (by kernel_rfl) (fun w32 mB32 m32 => ?_); clear m31 mB32
  refine d_y 0 ha30 rfl rfl (fun _ => (m32.to ⟨.inl rfl, .inl rfl, .inl rfl, .inl rfl, .inl rfl, trivial⟩)) (by kernel_rfl) (by kernel_rfl) (by kernel_rfl) (by rfl) (fun _ _ _ h => h) (fun W => y_move ha30 rfl) ?_
  clear ha30 a28; intro a33 ha33
  refine d_y 1 ha33 rfl rfl (fun _ => (m32.to ⟨.inl rfl, .inl rfl, .inl rfl, .inl rfl, .inl rfl, trivial⟩)) (by kernel_rfl) (by kernel_rfl) (by kernel_rfl) (by rfl) (fun _ _ _ h => h) (fun W => y_move ha33 rfl) ?_
  clear ha33 a33; intro a34 ha34
  refine d_y 2 ha34 rfl rfl (fun _ => (m32.to ⟨.inl rfl, .inl rfl, .inl rfl, .inl rfl, .inl rfl, trivial⟩)) (by kernel_rfl) (by kernel_rfl) (by kernel_rfl) (by rfl) (fun _ _ _ h => h) (fun W => y_nilCheck ha34 rfl) ?_
  clear ha34 a34; intro a35 ha35
  refine d_y 3 ha35 rfl rfl (fun _ => (m32.to ⟨.inl rfl, .inl rfl, .inl rfl, .inl rfl, .inl rfl, trivial⟩)) (by kernel_rfl) (by kernel_rfl) (by kernel_rfl) (by rfl) (fun _ _ _ h => h) (fun W => y_fieldAddr ha35 (off := 0) rfl Try.underlying29 rfl (s := 0) (by kernel_rfl) rfl) ?_
  clear ha35 a35; intro a36 ha36
  refine d_r 4 ha36 rfl rfl (m32.to ⟨.inl rfl, .inl rfl, .inl rfl, .inl rfl, .inl rfl, trivial⟩) (by kernel_rfl) (by kernel_rfl) (by kernel_rfl) (by kernel_rfl) (by kernel_rfl) (fun _ _ _ h => h) (fun W hW => y_loadB1 ha36 hW (i := 1) rfl rfl rfl Try.underlying27 rfl) ?_
  clear ha36 a36; intro a37 ha37
  refine d_y 5 ha37 rfl rfl (fun _ => (m32.to ⟨.inl rfl, .inl rfl, .inl rfl, .inl rfl, .inl rfl, trivial⟩)) (by kernel_rfl) (by kernel_rfl) (by kernel_rfl) (by rfl) (fun _ _ _ h => h) (fun W => y_move ha37 rfl) ?_
  clear ha37 a37; intro a38 ha38
  refine d_y 6 ha38 rfl rfl (fun _ => (m32.to ⟨.inl rfl, .inl rfl, .inl rfl, .inl rfl, .inl rfl, trivial⟩)) (by kernel_rfl) (by kernel_rfl) (by kernel_rfl) (by rfl) (fun _ _ _ h => h) (fun W => y_sliceHn ha38 k rfl rfl Try.underlying27 sz35rt rfl (by simp at hcap; omega)) ?_
  clear ha38 a38; intro a39 ha39
  refine d_y 8 ha39 rfl rfl (fun _ => (m32.to ⟨.inl rfl, .inl rfl, .inl rfl, .inl rfl, .inl rfl, trivial⟩)) (by kernel_rfl) (by kernel_rfl) (by kernel_rfl) (by rfl) (fun _ _ _ h => h) (fun W => y_move ha39 rfl) ?_
  clear ha39 a39; intro a40 ha40
  refine d_y 9 ha40 rfl rfl (fun _ => (m32.to ⟨.inl rfl, .inl rfl, .inl rfl, .inl rfl, .inl rfl, trivial⟩)) (by kernel_rfl) (by kernel_rfl) (by kernel_rfl) (by rfl) (fun _ _ _ h => h) (fun W => y_nilCheck ha40 rfl) ?_
  clear ha40 a40; intro a41 ha41
  refine d_y 10 ha41 rfl rfl (fun _ => (m32.to ⟨.inl rfl, .inl rfl, .inl rfl, .inl rfl, .inl rfl, trivial⟩)) (by kernel_rfl) (by kernel_rfl) (by kernel_rfl) (by rfl) (fun _ _ _ h => h) (fun W => y_fieldAddr ha41 (off := 0) rfl Try.underlying29 rfl (s := 0) (by kernel_rfl) rfl) ?_
  clear ha41 a41; intro a42 ha42
  refine d_r 11 ha42 rfl rfl (m32.to ⟨.inl rfl, .inl rfl, .inl rfl, .inl rfl, .inl rfl, trivial⟩) (by kernel_rfl) (by kernel_rfl) (by kernel_rfl) (by kernel_rfl) (by kernel_rfl) (fun _ _ _ h => h) (fun W hW => y_loadB1 ha42 hW (i := 1) rfl rfl rfl Try.underlying27 rfl) ?_
  clear ha42 a42; intro a43 ha43
  refine d_y 12 ha43 rfl rfl (fun _ => (m32.to ⟨.inl rfl, .inl rfl, .inl rfl, .inl rfl, .inl rfl, trivial⟩)) (by kernel_rfl) (by kernel_rfl) (by kernel_rfl) (by rfl) (fun _ _ _ h => h) (fun W => y_move ha43 rfl) ?_
  clear ha43 a43; intro a44 ha44
  refine d_y 13 ha44 rfl rfl (fun _ => (m32.to ⟨.inl rfl, .inl rfl, .inl rfl, .inl rfl, .inl rfl, trivial⟩)) (by kernel_rfl) (by kernel_rfl) (by kernel_rfl) (by rfl) (fun _ _ _ h => h) (fun W => y_add ha44 rfl rfl (r := ((k + 1 : Nat) : Int)) (by rw [IntWalk.i64_in _ (by omega)]; omega)) ?_
  clear ha44 a44; intro a45 ha45
  refine d_y 14 ha45 rfl rfl (fun _ => (m32.to ⟨.inl rfl, .inl rfl, .inl rfl, .inl rfl, .inl rfl, trivial⟩)) (by kernel_rfl) (by kernel_rfl) (by kernel_rfl) (by rfl) (fun _ _ _ h => h) (fun W => y_sliceLn ha45 (k + 1) rfl rfl Try.underlying27 sz35rt rfl (by simp; omega)) ?_
  clear ha45 a45; intro a46 ha46
  have m47 := m32.nilS 6 35 3; clear m32
  refine stepE_only 7 rfl (by kernel_rfl) rfl (fun K hK => ?_)
  refine e_appSA ha46 m47 6 rfl rfl rfl ((((m47.ok 2 _ rfl : Res.ok _ _ _ _ (.seg _ _ _ _)).1.take k (by simp <;> omega)).src.lenEq (by simp <;> omega))) Try.underlying27 inf35rt rfl rfl (by decide) (by simp; omega) rfl ?_
  clear ha46 a46 m47; intro p48 c48 a49 w49 ha49 m49 
  refine hK _ _ (m49.to ⟨.inl rfl, .inl rfl, .inl rfl, .inl rfl, .inl rfl, trivial⟩) ?_; clear hK K
  refine stepE_only 15 rfl (by kernel_rfl) rfl (fun K hK => ?_)
  refine e_appSA ha49 m49 6 rfl rfl rfl (m49.sufS (i := 2) rfl (k + 1) (by simp; omega)) Try.underlying27 inf35rt rfl rfl (by decide) (by simp; omega) rfl ?_
  clear ha49 a49 m49; intro p50 c50 a51 w51 ha51 m51 
  refine hK _ _ (m51.to ⟨.inl rfl, .inl rfl, .inl rfl, .inl rfl, .inl rfl, trivial⟩) ?_; clear hK K
  refine d_y 16 ha51 rfl rfl (fun _ => (m51.to ⟨.inl rfl, .inl rfl, .inl rfl, .inl rfl, .inl rfl, trivial⟩)) (by kernel_rfl) (by kernel_rfl) (by kernel_rfl) (by rfl) (fun _ _ _ h => h) (fun W => y_nilCheck ha51 rfl) ?_
  clear ha51 a51; intro a52 ha52
  refine d_y 17 ha52 rfl rfl (fun _ => (m51.to ⟨.inl rfl, .inl rfl, .inl rfl, .inl rfl, .inl rfl, trivial⟩)) (by kernel_rfl) (by kernel_rfl) (by kernel_rfl) (by rfl) (fun _ _ _ h => h) (fun W => y_fieldAddr ha52 (off := 0) rfl Try.underlying29 rfl (s := 0) (by kernel_rfl) rfl) ?_
  clear ha52 a52; intro a53 ha53
  refine stepE_end 18 rfl (by kernel_rfl) rfl (by rfl) (fun K hK => ?_)
  refine e_store1 ha53 m51 1 rfl rfl rfl rfl rfl sz27rt (by dsimp only [List.set] <;> rfl) ?_
  clear m51; intro w54 m54 hB54
  clear hB54
  refine hK _ _ ?_; clear hK K
  refine wpAnyE_done (by kernel_rfl) ?_ _
  refine hK4 _ _ ?_; clear hK4; try clear K4
  refine wp_seq_k (fun K5 hK5 => ?_)
  have ha55 : Has 45 [(4, _), (5, _), (6, _), (35, _)] a53 := ha53.only [4, 5, 6, 35]; clear ha53
  refine wp_region_lit ?_
  refine st_y ha55 rfl (y_loadBR ha55 m54 (i := 5) rfl rfl Try.underlying35 rfl sz35rt (by simp) (by dsimp only [List.drop, List.take] <;> rfl)) ?_
  clear ha55 a53; intro a56 ha56
  refine wpList_plain rfl (fun K hK => ?_)
  refine e_storeW ha56 m54 3 rfl rfl rfl rfl rfl sz35rt ?_
  clear m54; intro w57 m57 hB57
  clear hB57
  refine hK _ _ ?_; clear hK K
  refine st_y ha56 rfl (y_assign ha56 rfl) ?_
  clear ha56 a56; intro a58 ha58
  refine wpList_nil ?_
  refine hK5 _ _ ?_; clear hK5; try clear K5
  refine wp_ret ?_
  try dsimp only [Exit.then, Exit.inBlock]
  refine (retCT (fn := Try.f11) ha58 m57 (i := 3) rfl rfl rfl rfl Try.underlying35 rfl sz35rt ?_)
  rw [List.nil_append, ← List.map_take, ← List.map_drop, ← List.map_append, ← List.eraseIdx_eq_take_drop_succ] at m57
  exact ⟨_, _, _, rfl, m57.outP (i := 1) (j := 6) (by decide) rfl rfl hB.lt, m57.outPD (i := 1) (j := 6) (q := 4) rfl rfl rfl⟩
theorem rtake_no (S : Nat → Prop) (B : Nat) (p0 : Option Addr) (c0 : Nat) (q : Int) (fl : List (Int × Int × List Int)) (w0 : World) (hB : Blk w0 B 29 [.slice p0 (fl.map flD).length c0]) (hs : SegOk (fun b => S b ∧ b ≠ B ∧ (Value.slice p0 (fl.map flD).length c0).ownBlock ≠ some b) w0 (.slice p0 (fl.map flD).length c0) 35 3 (fl.map flD)) (hne : (Value.slice p0 (fl.map flD).length c0).ownBlock ≠ some B) (hn : fl.length ≤ 1000) (hq : q < 0 ∨ fl.length ≤ q) :
    Calls Try.prog 11 #[.pointer (some ⟨B, 0, none⟩), .int .i64 q] w0 fun e w' => ∃ v', e = .returned (.tuple #[.agg #[.int .i64 0, .int .i64 0, .slice none 0 0], .bool false]) ∧ PoolAt S w0 B 29 35 3 (.slice p0 (fl.map flD).length c0) (fl.map flD) w' v' := by
  refine enter (fn := Try.f11) Try.func11 rfl Try.ntmps11 rfl (fun a0 ha0 => ?_)
  simp only [List.zipIdx_cons, List.zipIdx_nil, List.map_cons, List.map_nil, Nat.reduceAdd, Nat.zero_add] at ha0
  have m0 := MemOk.startP S w0 hB hs hne
  refine wp_seq_k (fun K0 hK0 => ?_)
  refine wp_region_lit ?_
  refine wpList_plain rfl (fun K hK => ?_)
  refine e_alloc ha0 m0 3 zc35rt rfl ?_
  clear ha0 a0 m0; intro g1 a2 w2 ha2 m2 hB2 hg2
  clear hB2 hg2
  refine hK _ _ ?_; clear hK K
  refine st_y ha2 rfl (y_assign ha2 rfl) ?_
  clear ha2 a2; intro a3 ha3
  refine wpList_nil ?_
  refine hK0 _ _ ?_; clear hK0; try clear K0
  refine wp_seq_k (fun K1 hK1 => ?_)
  refine wp_seq_k (fun K2 hK2 => ?_)
  refine wp_region_lit ?_
  refine st_y ha3 rfl (y_move ha3 rfl) ?_
  clear ha3 a3; intro a4 ha4
  refine st_y ha4 rfl (y_lss ha4 rfl rfl) ?_
  clear ha4 a4; intro a5 ha5
  refine st_y ha5 rfl (y_move ha5 rfl) ?_
  clear ha5 a5; intro a6 ha6
  refine bool_cases ha6 (t := 9) rfl (fun hb7 ha7 => ?_) (fun hb7 ha7 => ?_)
  · skip
    clear ha6
    try simp only [decide_eq_true_eq, decide_eq_false_iff_not, Bool.not_eq_true, Bool.not_eq_false, Bool.not_eq_eq_eq_not, Bool.not_true, Bool.not_false, Bool.not_not, Int.not_lt, Int.not_le, ne_eq, Decidable.not_not] at hb7
    refine st_skip ha7 rfl rfl rfl rfl ?_
    clear ha7 a6; intro a8 ha8
    refine st_skip ha8 rfl rfl rfl rfl ?_
    clear ha8 a8; intro a9 ha9
    refine st_skip ha9 rfl rfl rfl rfl ?_
    clear ha9 a9; intro a10 ha10
    refine st_skip ha10 rfl rfl rfl rfl ?_
    clear ha10 a10; intro a11 ha11
    refine st_skip ha11 rfl rfl rfl rfl ?_
    clear ha11 a11; intro a12 ha12
    refine st_skip ha12 rfl rfl rfl rfl ?_
    clear ha12 a12; intro a13 ha13
    refine st_skip ha13 rfl rfl rfl rfl ?_
    clear ha13 a13; intro a14 ha14
    refine st_y ha14 rfl (y_pickT ha14 rfl rfl) ?_
    clear ha14 a14; intro a15 ha15
    refine wpList_nil ?_
    refine hK2 _ _ ?_; clear hK2; try clear K2
    refine wp_cond_true (ha15.ev (x := .tmp 17) rfl) ?_
    refine wp_seq_k (fun K3 hK3 => ?_)
    have ha16 : Has 45 [(0, _), (1, _), (4, _), (5, _)] a15 := ha15.only [0, 1, 4, 5]; clear ha15
    refine wp_region_lit ?_
    refine st_y ha16 rfl (y_build ha16 rfl zc35rt fl35rt rfl (by dsimp only [setL, List.set] <;> rfl)) ?_
    clear ha16 a15; intro a17 ha17
    refine wpList_plain rfl (fun K hK => ?_)
    refine e_storeW ha17 m2 3 rfl rfl rfl rfl rfl sz35rt ?_
    clear m2; intro w18 m18 hB18
    clear hB18
    refine hK _ _ ?_; clear hK K
    refine st_y ha17 rfl (y_assign ha17 rfl) ?_
    clear ha17 a17; intro a19 ha19
    refine wpList_nil ?_
    refine hK3 _ _ ?_; clear hK3; try clear K3
    refine wp_ret ?_
    try dsimp only [Exit.then, Exit.inBlock]
    refine (retCT (fn := Try.f11) ha19 m18 (i := 3) rfl rfl rfl rfl Try.underlying35 rfl sz35rt ?_)
    exact ⟨_, rfl, m18.outP (i := 1) (j := 2) (by decide) rfl rfl hB.lt⟩
  · skip
    clear ha6
    try simp only [decide_eq_true_eq, decide_eq_false_iff_not, Bool.not_eq_true, Bool.not_eq_false, Bool.not_eq_eq_eq_not, Bool.not_true, Bool.not_false, Bool.not_not, Int.not_lt, Int.not_le, ne_eq, Decidable.not_not] at hb7
    refine st_g ha7 rfl rfl rfl rfl (y_move ha7 rfl) ?_
    clear ha7 a6; intro a20 ha20
    refine st_g ha20 rfl rfl rfl rfl (y_move ha20 rfl) ?_
    clear ha20 a20; intro a21 ha21
    refine st_g ha21 rfl rfl rfl rfl (y_nilCheck ha21 rfl) ?_
    clear ha21 a21; intro a22 ha22
    refine st_g ha22 rfl rfl rfl rfl (y_fieldAddr ha22 (off := 0) rfl Try.underlying29 rfl (s := 0) (by kernel_rfl) rfl) ?_
    clear ha22 a22; intro a23 ha23
    refine st_g ha23 rfl rfl rfl rfl (y_loadB1 ha23 m2 (i := 1) rfl rfl rfl Try.underlying27 rfl) ?_
    clear ha23 a23; intro a24 ha24
    refine st_g ha24 rfl rfl rfl rfl (y_len ha24 rfl Try.underlying27) ?_
    clear ha24 a24; intro a25 ha25
    refine st_g ha25 rfl rfl rfl rfl (y_geq ha25 rfl rfl) ?_
    clear ha25 a25; intro a26 ha26
    refine st_y ha26 rfl (y_pickF ha26 rfl rfl) ?_
    clear ha26 a26; intro a27 ha27
    refine wpList_nil ?_
    refine hK2 _ _ ?_; clear hK2; try clear K2
    refine bool_cases ha27 (t := 17) rfl (fun hb28 ha28 => ?_) (fun hb28 ha28 => ?_)
    rotate_left
    · exact absurd hb28 (by simp; omega)
    clear ha27 hb28
    refine wp_cond_true (ha28.ev (x := .tmp 17) rfl) ?_
    refine wp_seq_k (fun K4 hK4 => ?_)
    have ha29 : Has 45 [(0, _), (1, _), (4, _), (5, _)] a27 := ha28.only [0, 1, 4, 5]; clear ha28
    refine wp_region_lit ?_
    refine st_y ha29 rfl (y_build ha29 rfl zc35rt fl35rt rfl (by dsimp only [setL, List.set] <;> rfl)) ?_
    clear ha29 a27; intro a30 ha30
    refine wpList_plain rfl (fun K hK => ?_)
    refine e_storeW ha30 m2 3 rfl rfl rfl rfl rfl sz35rt ?_
    clear m2; intro w31 m31 hB31
    clear hB31
    refine hK _ _ ?_; clear hK K
    refine st_y ha30 rfl (y_assign ha30 rfl) ?_
    clear ha30 a30; intro a32 ha32
    refine wpList_nil ?_
    refine hK4 _ _ ?_; clear hK4; try clear K4
    refine wp_ret ?_
    try dsimp only [Exit.then, Exit.inBlock]
    refine (retCT (fn := Try.f11) ha32 m31 (i := 3) rfl rfl rfl rfl Try.underlying35 rfl sz35rt ?_)
    exact ⟨_, rfl, m31.outP (i := 1) (j := 2) (by decide) rfl rfl hB.lt⟩
theorem rtwice_yes (S : Nat → Prop) (B : Nat) (p0 : Option Addr) (c0 k : Nat) (fl : List (Int × Int × List Int)) (ff ft : Int) (fd : List Int) (w0 : World) (hB : Blk w0 B 29 [.slice p0 (fl.map flD).length c0]) (hs : SegOk (fun b => S b ∧ b ≠ B ∧ (Value.slice p0 (fl.map flD).length c0).ownBlock ≠ some b) w0 (.slice p0 (fl.map flD).length c0) 35 3 (fl.map flD)) (hne : (Value.slice p0 (fl.map flD).length c0).ownBlock ≠ some B) (hn : fl.length ≤ 900) (hfl : fl[k]? = some (ff, ft, fd)) :
    Calls Try.prog 14 #[.pointer (some ⟨B, 0, none⟩), .int .i64 (k : Int)] w0 fun e w' => ∃ v', e = .returned (.bool true) ∧ PoolAt S w0 B 29 35 3 (.slice p0 (fl.map flD).length c0) ((fl ++ [(ff, ft, fd)]).map flD) w' v' := by
  have hk := (List.getElem?_eq_some_iff.1 hfl).1
  refine enter (fn := Try.f14) Try.func14 rfl Try.ntmps14 rfl (fun a0 ha0 => ?_)
  simp only [List.zipIdx_cons, List.zipIdx_nil, List.map_cons, List.map_nil, Nat.reduceAdd, Nat.zero_add] at ha0
  have m0 := MemOk.startP S w0 hB hs hne
  refine wp_seq_k (fun K0 hK0 => ?_)
  refine wp_region_lit ?_
  refine st_y ha0 rfl (y_assign ha0 rfl) ?_
  clear ha0 a0; intro a1 ha1
  refine wpList_nil ?_
  refine hK0 _ _ ?_; clear hK0; try clear K0
  refine wp_seq_k (fun K1 hK1 => ?_)
  refine wp_seq_k (fun K2 hK2 => ?_)
  refine wp_region_lit ?_
  refine st_y ha1 rfl (y_move ha1 rfl) ?_
  clear ha1 a1; intro a2 ha2
  refine st_y ha2 rfl (y_lss ha2 rfl rfl) ?_
  clear ha2 a2; intro a3 ha3
  refine st_y ha3 rfl (y_move ha3 rfl) ?_
  clear ha3 a3; intro a4 ha4
  refine bool_cases ha4 (t := 7) rfl (fun hb5 ha5 => ?_) (fun hb5 ha5 => ?_)
  · exact absurd hb5 (by simp)
  clear ha4 hb5
  refine st_g ha5 rfl rfl rfl rfl (y_move ha5 rfl) ?_
  clear ha5 a4; intro a6 ha6
  refine st_g ha6 rfl rfl rfl rfl (y_move ha6 rfl) ?_
  clear ha6 a6; intro a7 ha7
  refine st_g ha7 rfl rfl rfl rfl (y_nilCheck ha7 rfl) ?_
  clear ha7 a7; intro a8 ha8
  refine st_g ha8 rfl rfl rfl rfl (y_fieldAddr ha8 (off := 0) rfl Try.underlying29 rfl (s := 0) (by kernel_rfl) rfl) ?_
  clear ha8 a8; intro a9 ha9
  refine st_g ha9 rfl rfl rfl rfl (y_loadB1 ha9 m0 (i := 1) rfl rfl rfl Try.underlying27 rfl) ?_
  clear ha9 a9; intro a10 ha10
  refine st_g ha10 rfl rfl rfl rfl (y_len ha10 rfl Try.underlying27) ?_
  clear ha10 a10; intro a11 ha11
  refine st_g ha11 rfl rfl rfl rfl (y_geq ha11 rfl rfl) ?_
  clear ha11 a11; intro a12 ha12
  refine st_y ha12 rfl (y_pickF ha12 rfl rfl) ?_
  clear ha12 a12; intro a13 ha13
  refine wpList_nil ?_
  refine hK2 _ _ ?_; clear hK2; try clear K2
  refine bool_cases ha13 (t := 15) rfl (fun hb14 ha14 => ?_) (fun hb14 ha14 => ?_)
  · exact absurd hb14 (by simp; omega)
  clear ha13 hb14
  refine wp_cond_false (ha14.ev (x := .tmp 15) rfl) ?_
  refine wp_skip ?_
  refine hK1 _ _ ?_; clear hK1; try clear K1
  refine wp_seq_k (fun K3 hK3 => ?_)
  have ha15 : Has 26 [(0, _), (1, _), (4, _)] a13 := ha14.only [0, 1, 4]; clear ha14
  refine wp_region_lit ?_
  refine st_y ha15 rfl (y_move ha15 rfl) ?_
  clear ha15 a13; intro a16 ha16
  refine st_y ha16 rfl (y_move ha16 rfl) ?_
  clear ha16 a16; intro a17 ha17
  refine st_y ha17 rfl (y_nilCheck ha17 rfl) ?_
  clear ha17 a17; intro a18 ha18
  refine st_y ha18 rfl (y_fieldAddr ha18 (off := 0) rfl Try.underlying29 rfl (s := 0) (by kernel_rfl) rfl) ?_
  clear ha18 a18; intro a19 ha19
  refine st_y ha19 rfl (y_loadB1 ha19 m0 (i := 1) rfl rfl rfl Try.underlying27 rfl) ?_
  clear ha19 a19; intro a20 ha20
  refine st_y ha20 rfl (y_move ha20 rfl) ?_
  clear ha20 a20; intro a21 ha21
  obtain ⟨gs22, os22, vs22, hp22, hl22, hR22, hrg22⟩ := m0.openS (i := 2) rfl (k) (r := [.v (.int .i64 ff), .v (.int .i64 ft), .ns .u8 fd]) (fl_get hfl)
  cases hp22; clear hl22
  rcases hR22 with _ | ⟨hd22_0, _ | ⟨hd22_1, _ | ⟨hd22_2, _ | _⟩⟩⟩
  obtain rfl := hd22_0.v_out
  clear hd22_0
  obtain rfl := hd22_1.v_out
  clear hd22_1
  obtain ⟨p23, c23, hv23, hw23⟩ := hd22_2.ns_shape; subst hv23
  have m23 := m0.dat 3 rfl (hd22_2.cast (fun _ h => h)); clear m0 hd22_2
  refine st_y ha21 rfl (y_idx ha21 rfl rfl Try.underlying27 sz35rw (k) rfl (by simp; omega)) ?_
  clear ha21 a21; intro a24 ha24
  refine st_y ha24 rfl (y_loadAt ha24 hrg22 rfl Try.underlying35 rfl sz35rw) ?_
  clear ha24 a24; intro a25 ha25
  refine wpList_plain rfl (fun K hK => ?_)
  refine e_litR ha25 m23 4 (mm := 3) rfl (.cons rfl rfl (.cons (.v _) (.cons (.v _) (.cons (m23.rd (i := 3) rfl) .nil))) <| .nil) Try.underlying27 inf35rw rfl rfl rfl rfl rfl ?_
  clear ha25 a25 m23; intro g26 a27 w27 ha27 m27 
  refine hK _ _ ?_; clear hK K
  have m28 := m27.freezeR 4 rfl; clear m27
  refine wpList_plain rfl (fun K hK => ?_)
  refine e_call ha27 Try.func9 rfl rfl rfl rfl (rsend_any _ _ _ _ [(ff, ft, fd)] _ _ _ (m28.ok 1 _ rfl : Res.ok _ _ _ _ (.box _ _ _)).1 (m28.segP (i := 1) (j := 2) rfl rfl) (m28.neP (i := 1) (j := 2) (by decide) rfl rfl) ((m28.rd (i := 4) rfl).cast (fun b hF => ⟨hF, fun h => hF.2 ⟨1, _, rfl, by rw [h]; rfl⟩, fun h => hF.2 ⟨2, _, rfl, h⟩⟩)) (by simp; omega)) ?_
  rintro e w29 ⟨rfl, v29, hp29⟩
  have m30 := m28.callP 1 2 (by decide) rfl rfl hp29
  clear m28
  obtain ⟨p29, c29, hv29⟩ := hp29.2.1.shape
  subst hv29
  clear hp29
  refine ⟨_, rfl, fun a31 ha31 => ?_⟩; clear ha27 a27
  refine hK _ _ ?_; clear hK K
  refine wpList_nil ?_
  refine hK3 _ _ ?_; clear hK3; try clear K3
  refine wp_seq_k (fun K4 hK4 => ?_)
  have ha32 : Has 26 [(4, _)] a31 := ha31.only [4]; clear ha31
  refine wp_region_lit ?_
  refine st_y ha32 rfl (y_assign ha32 rfl) ?_
  clear ha32 a31; intro a33 ha33
  refine wpList_nil ?_
  refine hK4 _ _ ?_; clear hK4; try clear K4
  refine wp_ret ?_
  try dsimp only [Exit.then, Exit.inBlock]
  refine (ret1 (fn := Try.f14) ha33 rfl rfl ?_)
  exact ⟨_, rfl, by rw [List.map_append]; exact m30.outP (i := 1) (j := 2) (by decide) rfl rfl hB.lt⟩
theorem rtwice_no (S : Nat → Prop) (B : Nat) (p0 : Option Addr) (c0 : Nat) (q : Int) (fl : List (Int × Int × List Int)) (w0 : World) (hB : Blk w0 B 29 [.slice p0 (fl.map flD).length c0]) (hs : SegOk (fun b => S b ∧ b ≠ B ∧ (Value.slice p0 (fl.map flD).length c0).ownBlock ≠ some b) w0 (.slice p0 (fl.map flD).length c0) 35 3 (fl.map flD)) (hne : (Value.slice p0 (fl.map flD).length c0).ownBlock ≠ some B) (hn : fl.length ≤ 1000) (hq : q < 0 ∨ fl.length ≤ q) :
    Calls Try.prog 14 #[.pointer (some ⟨B, 0, none⟩), .int .i64 q] w0 fun e w' => ∃ v', e = .returned (.bool false) ∧ PoolAt S w0 B 29 35 3 (.slice p0 (fl.map flD).length c0) (fl.map flD) w' v' := by
  refine enter (fn := Try.f14) Try.func14 rfl Try.ntmps14 rfl (fun a0 ha0 => ?_)
  simp only [List.zipIdx_cons, List.zipIdx_nil, List.map_cons, List.map_nil, Nat.reduceAdd, Nat.zero_add] at ha0
  have m0 := MemOk.startP S w0 hB hs hne
  refine wp_seq_k (fun K0 hK0 => ?_)
  refine wp_region_lit ?_
  refine st_y ha0 rfl (y_assign ha0 rfl) ?_
  clear ha0 a0; intro a1 ha1
  refine wpList_nil ?_
  refine hK0 _ _ ?_; clear hK0; try clear K0
  refine wp_seq_k (fun K1 hK1 => ?_)
  refine wp_seq_k (fun K2 hK2 => ?_)
  refine wp_region_lit ?_
  refine st_y ha1 rfl (y_move ha1 rfl) ?_
  clear ha1 a1; intro a2 ha2
  refine st_y ha2 rfl (y_lss ha2 rfl rfl) ?_
  clear ha2 a2; intro a3 ha3
  refine st_y ha3 rfl (y_move ha3 rfl) ?_
  clear ha3 a3; intro a4 ha4
  refine bool_cases ha4 (t := 7) rfl (fun hb5 ha5 => ?_) (fun hb5 ha5 => ?_)
  · skip
    clear ha4
    try simp only [decide_eq_true_eq, decide_eq_false_iff_not, Bool.not_eq_true, Bool.not_eq_false, Bool.not_eq_eq_eq_not, Bool.not_true, Bool.not_false, Bool.not_not, Int.not_lt, Int.not_le, ne_eq, Decidable.not_not] at hb5
    refine st_skip ha5 rfl rfl rfl rfl ?_
    clear ha5 a4; intro a6 ha6
    refine st_skip ha6 rfl rfl rfl rfl ?_
    clear ha6 a6; intro a7 ha7
    refine st_skip ha7 rfl rfl rfl rfl ?_
    clear ha7 a7; intro a8 ha8
    refine st_skip ha8 rfl rfl rfl rfl ?_
    clear ha8 a8; intro a9 ha9
    refine st_skip ha9 rfl rfl rfl rfl ?_
    clear ha9 a9; intro a10 ha10
    refine st_skip ha10 rfl rfl rfl rfl ?_
    clear ha10 a10; intro a11 ha11
    refine st_skip ha11 rfl rfl rfl rfl ?_
    clear ha11 a11; intro a12 ha12
    refine st_y ha12 rfl (y_pickT ha12 rfl rfl) ?_
    clear ha12 a12; intro a13 ha13
    refine wpList_nil ?_
    refine hK2 _ _ ?_; clear hK2; try clear K2
    refine wp_cond_true (ha13.ev (x := .tmp 15) rfl) ?_
    refine wp_seq_k (fun K3 hK3 => ?_)
    have ha14 : Has 26 [(0, _), (1, _), (4, _)] a13 := ha13.only [0, 1, 4]; clear ha13
    refine wp_region_lit ?_
    refine st_y ha14 rfl (y_assign ha14 rfl) ?_
    clear ha14 a13; intro a15 ha15
    refine wpList_nil ?_
    refine hK3 _ _ ?_; clear hK3; try clear K3
    refine wp_ret ?_
    try dsimp only [Exit.then, Exit.inBlock]
    refine (ret1 (fn := Try.f14) ha15 rfl rfl ?_)
    exact ⟨_, rfl, m0.outP (i := 1) (j := 2) (by decide) rfl rfl hB.lt⟩
  · skip
    clear ha4
    try simp only [decide_eq_true_eq, decide_eq_false_iff_not, Bool.not_eq_true, Bool.not_eq_false, Bool.not_eq_eq_eq_not, Bool.not_true, Bool.not_false, Bool.not_not, Int.not_lt, Int.not_le, ne_eq, Decidable.not_not] at hb5
    refine st_g ha5 rfl rfl rfl rfl (y_move ha5 rfl) ?_
    clear ha5 a4; intro a16 ha16
    refine st_g ha16 rfl rfl rfl rfl (y_move ha16 rfl) ?_
    clear ha16 a16; intro a17 ha17
    refine st_g ha17 rfl rfl rfl rfl (y_nilCheck ha17 rfl) ?_
    clear ha17 a17; intro a18 ha18
    refine st_g ha18 rfl rfl rfl rfl (y_fieldAddr ha18 (off := 0) rfl Try.underlying29 rfl (s := 0) (by kernel_rfl) rfl) ?_
    clear ha18 a18; intro a19 ha19
    refine st_g ha19 rfl rfl rfl rfl (y_loadB1 ha19 m0 (i := 1) rfl rfl rfl Try.underlying27 rfl) ?_
    clear ha19 a19; intro a20 ha20
    refine st_g ha20 rfl rfl rfl rfl (y_len ha20 rfl Try.underlying27) ?_
    clear ha20 a20; intro a21 ha21
    refine st_g ha21 rfl rfl rfl rfl (y_geq ha21 rfl rfl) ?_
    clear ha21 a21; intro a22 ha22
    refine st_y ha22 rfl (y_pickF ha22 rfl rfl) ?_
    clear ha22 a22; intro a23 ha23
    refine wpList_nil ?_
    refine hK2 _ _ ?_; clear hK2; try clear K2
    refine bool_cases ha23 (t := 15) rfl (fun hb24 ha24 => ?_) (fun hb24 ha24 => ?_)
    rotate_left
    · exact absurd hb24 (by simp; omega)
    clear ha23 hb24
    refine wp_cond_true (ha24.ev (x := .tmp 15) rfl) ?_
    refine wp_seq_k (fun K4 hK4 => ?_)
    have ha25 : Has 26 [(0, _), (1, _), (4, _)] a23 := ha24.only [0, 1, 4]; clear ha24
    refine wp_region_lit ?_
    refine st_y ha25 rfl (y_assign ha25 rfl) ?_
    clear ha25 a23; intro a26 ha26
    refine wpList_nil ?_
    refine hK4 _ _ ?_; clear hK4; try clear K4
    refine wp_ret ?_
    try dsimp only [Exit.then, Exit.inBlock]
    refine (ret1 (fn := Try.f14) ha26 rfl rfl ?_)
    exact ⟨_, rfl, m0.outP (i := 1) (j := 2) (by decide) rfl rfl hB.lt⟩
theorem rsame_any (fl : List (Int × Int × List Int)) (p1 p2 : Option Addr) (c1 c2 : Nat) (w0 : World) (hn : fl.length ≤ 1000) (h1 : Rd (fun _ => True) w0 (.slice p1 fl.length c1) (.l 3 (fl.map flD))) (h2 : Rd (fun _ => True) w0 (.slice p2 fl.length c2) (.l 3 (fl.map flD))) :
    Calls Try.prog 12 #[.slice p1 fl.length c1, .slice p2 fl.length c2] w0 fun e w' => e = .returned (.bool true) ∧ Below w0.heap.size w0 w' := by
  refine enter (fn := Try.f12) Try.func12 rfl Try.ntmps12 rfl (fun a0 ha0 => ?_)
  simp only [List.zipIdx_cons, List.zipIdx_nil, List.map_cons, List.map_nil, Nat.reduceAdd, Nat.zero_add] at ha0
  have m0 := ((MemOk.start (fun _ => True) w0).dat 1 rfl (h1.cast (fun _ _ => free_nil (fun _ => trivial)))).dat 2 rfl (h2.cast (fun _ _ => free_add rfl (free_nil (fun _ => trivial))))
  refine wp_seq_k (fun K0 hK0 => ?_)
  refine wp_region_lit ?_
  refine st_y ha0 rfl (y_assign ha0 rfl) ?_
  clear ha0 a0; intro a1 ha1
  refine wpList_nil ?_
  refine hK0 _ _ ?_; clear hK0; try clear K0
  refine wp_seq_k (fun K1 hK1 => ?_)
  refine wp_seq_k (fun K2 hK2 => ?_)
  refine wp_region_lit ?_
  refine st_y ha1 rfl (y_move ha1 rfl) ?_
  clear ha1 a1; intro a2 ha2
  refine st_y ha2 rfl (y_len ha2 rfl Try.underlying27) ?_
  clear ha2 a2; intro a3 ha3
  refine st_y ha3 rfl (y_move ha3 rfl) ?_
  clear ha3 a3; intro a4 ha4
  refine st_y ha4 rfl (y_len ha4 rfl Try.underlying27) ?_
  clear ha4 a4; intro a5 ha5
  refine st_y ha5 rfl (y_neq ha5 rfl rfl) ?_
  clear ha5 a5; intro a6 ha6
  refine wpList_nil ?_
  refine hK2 _ _ ?_; clear hK2; try clear K2
  refine bool_cases ha6 (t := 10) rfl (fun hb7 ha7 => ?_) (fun hb7 ha7 => ?_)
  · exact absurd hb7 (by simp)
  clear ha6 hb7
  refine wp_cond_false (ha7.ev (x := .tmp 10) rfl) ?_
  refine wp_skip ?_
  refine hK1 _ _ ?_; clear hK1; try clear K1
  refine wp_seq_k (fun K3 hK3 => ?_)
  refine wp_seq_k (fun K4 hK4 => ?_)
  refine wp_region_lit ?_
  refine st_y ha7 rfl (y_assign ha7 rfl) ?_
  clear ha7 a6; intro a8 ha8
  refine wpList_nil ?_
  refine hK4 _ _ ?_; clear hK4; try clear K4
  refine wp_block ?_
  refine wp_loop_ghost (fun g a w => ∃ (k : Nat) (p1 p2 : Option Addr) (c1 c2 : Nat), k ≤ fl.length ∧ g = fl.length - k ∧ Has 56 [(0, .slice p1 fl.length c1), (1, .slice p2 fl.length c2), (5, .int .i64 k)] a ∧ MemOk (cx (fun _ => True) w0) w0 [(1, .dat (.slice p1 fl.length c1) (.l 3 (fl.map flD))), (2, .dat (.slice p2 fl.length c2) (.l 3 (fl.map flD)))] w) (fl.length) ?_ ?_
  · exact ⟨0, _, _, _, _, Nat.zero_le _, rfl, ha8.only [0, 1, 5], m0.only [1, 2]⟩
  · skip
    clear ha8 m0
    rintro g a9 w9 ⟨k, p1, p2, c1, c2, hkl, hg, ha9, m9⟩
    refine wp_seq_k (fun K5 hK5 => ?_)
    refine wp_seq_k (fun K6 hK6 => ?_)
    refine wp_region_lit ?_
    refine st_y ha9 rfl (y_move ha9 rfl) ?_
    clear ha9 a9; intro a10 ha10
    refine st_y ha10 rfl (y_move ha10 rfl) ?_
    clear ha10 a10; intro a11 ha11
    refine st_y ha11 rfl (y_len ha11 rfl Try.underlying27) ?_
    clear ha11 a11; intro a12 ha12
    refine st_y ha12 rfl (y_lss ha12 rfl rfl) ?_
    clear ha12 a12; intro a13 ha13
    refine wpList_nil ?_
    refine hK6 _ _ ?_; clear hK6; try clear K6
    refine bool_cases ha13 (t := 14) rfl (fun hb14 ha14 => ?_) (fun hb14 ha14 => ?_)
    · skip
      clear ha13
      try simp only [decide_eq_true_eq, decide_eq_false_iff_not, Bool.not_eq_true, Bool.not_eq_false, Bool.not_eq_eq_eq_not, Bool.not_true, Bool.not_false, Bool.not_not, Int.not_lt, Int.not_le, ne_eq, Decidable.not_not] at hb14
      have hk : k < fl.length := by omega
      obtain ⟨⟨ff, ft, fd⟩, hfl⟩ : ∃ e, fl[k]? = some e := ⟨_, List.getElem?_eq_getElem hk⟩
      refine wp_cond_true (ha14.ev (x := .tmp 14) rfl) ?_
      refine wp_skip ?_
      refine hK5 _ _ ?_; clear hK5; try clear K5
      refine wp_seq_k (fun K7 hK7 => ?_)
      refine wp_block ?_
      refine wp_seq_k (fun K8 hK8 => ?_)
      obtain ⟨b15, o15, vs15, hp15, hR15, ho15, m15⟩ := m9.openR (i := 1) rfl (k) (r := [.v (.int .i64 ff), .v (.int .i64 ft), .ns .u8 fd]) (fl_get hfl) 100 rfl
      cases hp15; clear m9 ho15
      rcases hR15 with _ | ⟨hd15_0, _ | ⟨hd15_1, _ | ⟨hd15_2, _ | _⟩⟩⟩
      obtain rfl := hd15_0.v_out
      clear hd15_0
      obtain rfl := hd15_1.v_out
      clear hd15_1
      obtain ⟨p16, c16, hv16, hc16⟩ := hd15_2.ns_shape; subst hv16
      have m16 := m15.dat 101 rfl (hd15_2.cast (fun _ h => (free_add rfl h))); clear m15 hd15_2
      obtain ⟨b17, o17, vs17, hp17, hR17, ho17, m17⟩ := m16.openR (i := 2) rfl (k) (r := [.v (.int .i64 ff), .v (.int .i64 ft), .ns .u8 fd]) (fl_get hfl) 102 rfl
      cases hp17; clear m16 ho17
      rcases hR17 with _ | ⟨hd17_0, _ | ⟨hd17_1, _ | ⟨hd17_2, _ | _⟩⟩⟩
      obtain rfl := hd17_0.v_out
      clear hd17_0
      obtain rfl := hd17_1.v_out
      clear hd17_1
      obtain ⟨p18, c18, hv18, hc18⟩ := hd17_2.ns_shape; subst hv18
      have m18 := m17.dat 103 rfl (hd17_2.cast (fun _ h => (free_add rfl h))); clear m17 hd17_2
      obtain ⟨b19, o19, vs19, hp19, hR19, ho19, m19⟩ := m18.openR (i := 1) rfl (k) (r := [.v (.int .i64 ff), .v (.int .i64 ft), .ns .u8 fd]) (fl_get hfl) 104 rfl
      cases hp19; clear m18 ho19
      rcases hR19 with _ | ⟨hd19_0, _ | ⟨hd19_1, _ | ⟨hd19_2, _ | _⟩⟩⟩
      obtain rfl := hd19_0.v_out
      clear hd19_0
      obtain rfl := hd19_1.v_out
      clear hd19_1
      obtain ⟨p20, c20, hv20, hc20⟩ := hd19_2.ns_shape; subst hv20
      have m20 := m19.dat 105 rfl (hd19_2.cast (fun _ h => (free_add rfl h))); clear m19 hd19_2
      obtain ⟨b21, o21, vs21, hp21, hR21, ho21, m21⟩ := m20.openR (i := 2) rfl (k) (r := [.v (.int .i64 ff), .v (.int .i64 ft), .ns .u8 fd]) (fl_get hfl) 106 rfl
      cases hp21; clear m20 ho21
      rcases hR21 with _ | ⟨hd21_0, _ | ⟨hd21_1, _ | ⟨hd21_2, _ | _⟩⟩⟩
      obtain rfl := hd21_0.v_out
      clear hd21_0
      obtain rfl := hd21_1.v_out
      clear hd21_1
      obtain ⟨p22, c22, hv22, hc22⟩ := hd21_2.ns_shape; subst hv22
      have m22 := m21.dat 107 rfl (hd21_2.cast (fun _ h => (free_add rfl h))); clear m21 hd21_2
      obtain ⟨b23, o23, vs23, hp23, hR23, ho23, m23⟩ := m22.openR (i := 1) rfl (k) (r := [.v (.int .i64 ff), .v (.int .i64 ft), .ns .u8 fd]) (fl_get hfl) 108 rfl
      cases hp23; clear m22 ho23
      rcases hR23 with _ | ⟨hd23_0, _ | ⟨hd23_1, _ | ⟨hd23_2, _ | _⟩⟩⟩
      obtain rfl := hd23_0.v_out
      clear hd23_0
      obtain rfl := hd23_1.v_out
      clear hd23_1
      obtain ⟨p24, c24, hv24, hc24⟩ := hd23_2.ns_shape; subst hv24
      have m24 := m23.dat 109 rfl (hd23_2.cast (fun _ h => (free_add rfl h))); clear m23 hd23_2
      obtain ⟨b25, o25, vs25, hp25, hR25, ho25, m25⟩ := m24.openR (i := 2) rfl (k) (r := [.v (.int .i64 ff), .v (.int .i64 ft), .ns .u8 fd]) (fl_get hfl) 110 rfl
      cases hp25; clear m24 ho25
      rcases hR25 with _ | ⟨hd25_0, _ | ⟨hd25_1, _ | ⟨hd25_2, _ | _⟩⟩⟩
      obtain rfl := hd25_0.v_out
      clear hd25_0
      obtain rfl := hd25_1.v_out
      clear hd25_1
      obtain ⟨p26, c26, hv26, hc26⟩ := hd25_2.ns_shape; subst hv26
      have m26 := m25.dat 111 rfl (hd25_2.cast (fun _ h => (free_add rfl h))); clear m25 hd25_2
      have m27 : MemOk _ _ [(1, _), (2, _), (100, _), (101, _), (102, _), (103, _), (104, _), (105, _), (106, _), (107, _), (108, _), (109, _), (110, _), (111, _)] _ := m26.only [1, 2, 100, 101, 102, 103, 104, 105, 106, 107, 108, 109, 110, 111]; clear m26
      refine region_m 39 (B := [(1, _), (2, _), (100, _), (101, _), (102, _), (103, _), (104, _), (105, _), (106, _), (107, _), (108, _), (109, _), (110, _), (111, _)]) (m27.to ⟨.inl rfl, .inl rfl, .inl rfl, .inl rfl, .inl rfl, .inl rfl, .inl rfl, .inl rfl, .inl rfl, .inl rfl, .inl rfl, .inl rfl, .inl rfl, .inl rfl, trivial⟩) m27 (by kernel_rfl) (fun w28 mB28 m28 => ?_); clear m27 mB28
      refine d_y 0 ha14 rfl rfl (fun _ => (m28.to ⟨.inl rfl, .inl rfl, .inl rfl, .inl rfl, .inl rfl, .inl rfl, .inl rfl, .inl rfl, .inl rfl, .inl rfl, .inl rfl, .inl rfl, .inl rfl, .inl rfl, trivial⟩)) (by kernel_rfl) (by kernel_rfl) (by kernel_rfl) (by rfl) (fun _ _ _ h => h) (fun W => y_move ha14 rfl) ?_
      clear ha14 a13; intro a29 ha29
      refine d_y 1 ha29 rfl rfl (fun _ => (m28.to ⟨.inl rfl, .inl rfl, .inl rfl, .inl rfl, .inl rfl, .inl rfl, .inl rfl, .inl rfl, .inl rfl, .inl rfl, .inl rfl, .inl rfl, .inl rfl, .inl rfl, trivial⟩)) (by kernel_rfl) (by kernel_rfl) (by kernel_rfl) (by rfl) (fun _ _ _ h => h) (fun W => y_move ha29 rfl) ?_
      clear ha29 a29; intro a30 ha30
      refine d_y 2 ha30 rfl rfl (fun _ => (m28.to ⟨.inl rfl, .inl rfl, .inl rfl, .inl rfl, .inl rfl, .inl rfl, .inl rfl, .inl rfl, .inl rfl, .inl rfl, .inl rfl, .inl rfl, .inl rfl, .inl rfl, trivial⟩)) (by kernel_rfl) (by kernel_rfl) (by kernel_rfl) (by rfl) (fun _ _ _ h => h) (fun W => y_idx ha30 rfl rfl Try.underlying27 sz35rf (k) rfl hk) ?_
      clear ha30 a30; intro a31 ha31
      refine d_y 3 ha31 rfl rfl (fun _ => (m28.to ⟨.inl rfl, .inl rfl, .inl rfl, .inl rfl, .inl rfl, .inl rfl, .inl rfl, .inl rfl, .inl rfl, .inl rfl, .inl rfl, .inl rfl, .inl rfl, .inl rfl, trivial⟩)) (by kernel_rfl) (by kernel_rfl) (by kernel_rfl) (by rfl) (fun _ _ _ h => h) (fun W => y_fieldAddrQ ha31 0 rfl Try.underlying35 rfl (s := 0) (by kernel_rfl) rfl) ?_
      clear ha31 a31; intro a32 ha32
      refine d_h 4 ha32 rfl rfl (m28.to ⟨.inl rfl, .inl rfl, .inl rfl, .inl rfl, .inl rfl, .inl rfl, .inl rfl, .inl rfl, .inl rfl, .inl rfl, .inl rfl, .inl rfl, .inl rfl, .inl rfl, trivial⟩) (by kernel_rfl) (by kernel_rfl) (by kernel_rfl) (by kernel_rfl) (by kernel_rfl) (fun _ _ _ h => h) (fun W hW => y_loadC0 ha32 hW (i := 100) rfl rfl Try.underlying3 rfl) ?_
      clear ha32 a32; intro a33 ha33
      refine d_y 5 ha33 rfl rfl (fun _ => (m28.to ⟨.inl rfl, .inl rfl, .inl rfl, .inl rfl, .inl rfl, .inl rfl, .inl rfl, .inl rfl, .inl rfl, .inl rfl, .inl rfl, .inl rfl, .inl rfl, .inl rfl, trivial⟩)) (by kernel_rfl) (by kernel_rfl) (by kernel_rfl) (by rfl) (fun _ _ _ h => h) (fun W => y_move ha33 rfl) ?_
      clear ha33 a33; intro a34 ha34
      refine d_y 6 ha34 rfl rfl (fun _ => (m28.to ⟨.inl rfl, .inl rfl, .inl rfl, .inl rfl, .inl rfl, .inl rfl, .inl rfl, .inl rfl, .inl rfl, .inl rfl, .inl rfl, .inl rfl, .inl rfl, .inl rfl, trivial⟩)) (by kernel_rfl) (by kernel_rfl) (by kernel_rfl) (by rfl) (fun _ _ _ h => h) (fun W => y_move ha34 rfl) ?_
      clear ha34 a34; intro a35 ha35
      refine d_y 7 ha35 rfl rfl (fun _ => (m28.to ⟨.inl rfl, .inl rfl, .inl rfl, .inl rfl, .inl rfl, .inl rfl, .inl rfl, .inl rfl, .inl rfl, .inl rfl, .inl rfl, .inl rfl, .inl rfl, .inl rfl, trivial⟩)) (by kernel_rfl) (by kernel_rfl) (by kernel_rfl) (by rfl) (fun _ _ _ h => h) (fun W => y_idx ha35 rfl rfl Try.underlying27 sz35rf (k) rfl hk) ?_
      clear ha35 a35; intro a36 ha36
      refine d_y 8 ha36 rfl rfl (fun _ => (m28.to ⟨.inl rfl, .inl rfl, .inl rfl, .inl rfl, .inl rfl, .inl rfl, .inl rfl, .inl rfl, .inl rfl, .inl rfl, .inl rfl, .inl rfl, .inl rfl, .inl rfl, trivial⟩)) (by kernel_rfl) (by kernel_rfl) (by kernel_rfl) (by rfl) (fun _ _ _ h => h) (fun W => y_fieldAddrQ ha36 0 rfl Try.underlying35 rfl (s := 0) (by kernel_rfl) rfl) ?_
      clear ha36 a36; intro a37 ha37
      refine d_h 9 ha37 rfl rfl (m28.to ⟨.inl rfl, .inl rfl, .inl rfl, .inl rfl, .inl rfl, .inl rfl, .inl rfl, .inl rfl, .inl rfl, .inl rfl, .inl rfl, .inl rfl, .inl rfl, .inl rfl, trivial⟩) (by kernel_rfl) (by kernel_rfl) (by kernel_rfl) (by kernel_rfl) (by kernel_rfl) (fun _ _ _ h => h) (fun W hW => y_loadC0 ha37 hW (i := 102) rfl rfl Try.underlying3 rfl) ?_
      clear ha37 a37; intro a38 ha38
      refine d_y 10 ha38 rfl rfl (fun _ => (m28.to ⟨.inl rfl, .inl rfl, .inl rfl, .inl rfl, .inl rfl, .inl rfl, .inl rfl, .inl rfl, .inl rfl, .inl rfl, .inl rfl, .inl rfl, .inl rfl, .inl rfl, trivial⟩)) (by kernel_rfl) (by kernel_rfl) (by kernel_rfl) (by rfl) (fun _ _ _ h => h) (fun W => y_neq ha38 rfl rfl) ?_
      clear ha38 a38; intro a39 ha39
      refine d_y 11 ha39 rfl rfl (fun _ => (m28.to ⟨.inl rfl, .inl rfl, .inl rfl, .inl rfl, .inl rfl, .inl rfl, .inl rfl, .inl rfl, .inl rfl, .inl rfl, .inl rfl, .inl rfl, .inl rfl, .inl rfl, trivial⟩)) (by kernel_rfl) (by kernel_rfl) (by kernel_rfl) (by rfl) (fun _ _ _ h => h) (fun W => y_move ha39 rfl) ?_
      clear ha39 a39; intro a40 ha40
      refine bool_cases ha40 (t := 28) rfl (fun hb41 ha41 => ?_) (fun hb41 ha41 => ?_)
      · exact absurd hb41 (by simp)
      clear ha40 hb41
      refine d_yg 12 ha41 rfl rfl rfl rfl rfl (fun _ => (m28.to ⟨.inl rfl, .inl rfl, .inl rfl, .inl rfl, .inl rfl, .inl rfl, .inl rfl, .inl rfl, .inl rfl, .inl rfl, .inl rfl, .inl rfl, .inl rfl, .inl rfl, trivial⟩)) (by kernel_rfl) (by kernel_rfl) (by kernel_rfl) (by rfl) (fun _ _ _ h => h) (fun W => y_move ha41 rfl) ?_
      clear ha41 a40; intro a42 ha42
      refine d_yg 13 ha42 rfl rfl rfl rfl rfl (fun _ => (m28.to ⟨.inl rfl, .inl rfl, .inl rfl, .inl rfl, .inl rfl, .inl rfl, .inl rfl, .inl rfl, .inl rfl, .inl rfl, .inl rfl, .inl rfl, .inl rfl, .inl rfl, trivial⟩)) (by kernel_rfl) (by kernel_rfl) (by kernel_rfl) (by rfl) (fun _ _ _ h => h) (fun W => y_move ha42 rfl) ?_
      clear ha42 a42; intro a43 ha43
      refine d_yg 14 ha43 rfl rfl rfl rfl rfl (fun _ => (m28.to ⟨.inl rfl, .inl rfl, .inl rfl, .inl rfl, .inl rfl, .inl rfl, .inl rfl, .inl rfl, .inl rfl, .inl rfl, .inl rfl, .inl rfl, .inl rfl, .inl rfl, trivial⟩)) (by kernel_rfl) (by kernel_rfl) (by kernel_rfl) (by rfl) (fun _ _ _ h => h) (fun W => y_idx ha43 rfl rfl Try.underlying27 sz35rf (k) rfl hk) ?_
      clear ha43 a43; intro a44 ha44
      refine d_yg 15 ha44 rfl rfl rfl rfl rfl (fun _ => (m28.to ⟨.inl rfl, .inl rfl, .inl rfl, .inl rfl, .inl rfl, .inl rfl, .inl rfl, .inl rfl, .inl rfl, .inl rfl, .inl rfl, .inl rfl, .inl rfl, .inl rfl, trivial⟩)) (by kernel_rfl) (by kernel_rfl) (by kernel_rfl) (by rfl) (fun _ _ _ h => h) (fun W => y_fieldAddrQ ha44 1 rfl Try.underlying35 rfl (s := 0) (by kernel_rfl) rfl) ?_
      clear ha44 a44; intro a45 ha45
      refine d_hg 16 ha45 rfl rfl rfl rfl rfl (m28.to ⟨.inl rfl, .inl rfl, .inl rfl, .inl rfl, .inl rfl, .inl rfl, .inl rfl, .inl rfl, .inl rfl, .inl rfl, .inl rfl, .inl rfl, .inl rfl, .inl rfl, trivial⟩) (by kernel_rfl) (by kernel_rfl) (by kernel_rfl) (by kernel_rfl) (by kernel_rfl) (fun _ _ _ h => h) (fun W hW => y_loadC1 ha45 hW (i := 104) (q := 1) rfl rfl rfl Try.underlying3 rfl) ?_
      clear ha45 a45; intro a46 ha46
      refine d_yg 17 ha46 rfl rfl rfl rfl rfl (fun _ => (m28.to ⟨.inl rfl, .inl rfl, .inl rfl, .inl rfl, .inl rfl, .inl rfl, .inl rfl, .inl rfl, .inl rfl, .inl rfl, .inl rfl, .inl rfl, .inl rfl, .inl rfl, trivial⟩)) (by kernel_rfl) (by kernel_rfl) (by kernel_rfl) (by rfl) (fun _ _ _ h => h) (fun W => y_move ha46 rfl) ?_
      clear ha46 a46; intro a47 ha47
      refine d_yg 18 ha47 rfl rfl rfl rfl rfl (fun _ => (m28.to ⟨.inl rfl, .inl rfl, .inl rfl, .inl rfl, .inl rfl, .inl rfl, .inl rfl, .inl rfl, .inl rfl, .inl rfl, .inl rfl, .inl rfl, .inl rfl, .inl rfl, trivial⟩)) (by kernel_rfl) (by kernel_rfl) (by kernel_rfl) (by rfl) (fun _ _ _ h => h) (fun W => y_move ha47 rfl) ?_
      clear ha47 a47; intro a48 ha48
      refine d_yg 19 ha48 rfl rfl rfl rfl rfl (fun _ => (m28.to ⟨.inl rfl, .inl rfl, .inl rfl, .inl rfl, .inl rfl, .inl rfl, .inl rfl, .inl rfl, .inl rfl, .inl rfl, .inl rfl, .inl rfl, .inl rfl, .inl rfl, trivial⟩)) (by kernel_rfl) (by kernel_rfl) (by kernel_rfl) (by rfl) (fun _ _ _ h => h) (fun W => y_idx ha48 rfl rfl Try.underlying27 sz35rf (k) rfl hk) ?_
      clear ha48 a48; intro a49 ha49
      refine d_yg 20 ha49 rfl rfl rfl rfl rfl (fun _ => (m28.to ⟨.inl rfl, .inl rfl, .inl rfl, .inl rfl, .inl rfl, .inl rfl, .inl rfl, .inl rfl, .inl rfl, .inl rfl, .inl rfl, .inl rfl, .inl rfl, .inl rfl, trivial⟩)) (by kernel_rfl) (by kernel_rfl) (by kernel_rfl) (by rfl) (fun _ _ _ h => h) (fun W => y_fieldAddrQ ha49 1 rfl Try.underlying35 rfl (s := 0) (by kernel_rfl) rfl) ?_
      clear ha49 a49; intro a50 ha50
      refine d_hg 21 ha50 rfl rfl rfl rfl rfl (m28.to ⟨.inl rfl, .inl rfl, .inl rfl, .inl rfl, .inl rfl, .inl rfl, .inl rfl, .inl rfl, .inl rfl, .inl rfl, .inl rfl, .inl rfl, .inl rfl, .inl rfl, trivial⟩) (by kernel_rfl) (by kernel_rfl) (by kernel_rfl) (by kernel_rfl) (by kernel_rfl) (fun _ _ _ h => h) (fun W hW => y_loadC1 ha50 hW (i := 106) (q := 1) rfl rfl rfl Try.underlying3 rfl) ?_
      clear ha50 a50; intro a51 ha51
      refine d_yg 22 ha51 rfl rfl rfl rfl rfl (fun _ => (m28.to ⟨.inl rfl, .inl rfl, .inl rfl, .inl rfl, .inl rfl, .inl rfl, .inl rfl, .inl rfl, .inl rfl, .inl rfl, .inl rfl, .inl rfl, .inl rfl, .inl rfl, trivial⟩)) (by kernel_rfl) (by kernel_rfl) (by kernel_rfl) (by rfl) (fun _ _ _ h => h) (fun W => y_neq ha51 rfl rfl) ?_
      clear ha51 a51; intro a52 ha52
      refine d_y 23 ha52 rfl rfl (fun _ => (m28.to ⟨.inl rfl, .inl rfl, .inl rfl, .inl rfl, .inl rfl, .inl rfl, .inl rfl, .inl rfl, .inl rfl, .inl rfl, .inl rfl, .inl rfl, .inl rfl, .inl rfl, trivial⟩)) (by kernel_rfl) (by kernel_rfl) (by kernel_rfl) (by rfl) (fun _ _ _ h => h) (fun W => y_pickF ha52 rfl rfl) ?_
      clear ha52 a52; intro a53 ha53
      refine d_y 24 ha53 rfl rfl (fun _ => (m28.to ⟨.inl rfl, .inl rfl, .inl rfl, .inl rfl, .inl rfl, .inl rfl, .inl rfl, .inl rfl, .inl rfl, .inl rfl, .inl rfl, .inl rfl, .inl rfl, .inl rfl, trivial⟩)) (by kernel_rfl) (by kernel_rfl) (by kernel_rfl) (by rfl) (fun _ _ _ h => h) (fun W => y_move ha53 rfl) ?_
      clear ha53 a53; intro a54 ha54
      refine bool_cases ha54 (t := 41) rfl (fun hb55 ha55 => ?_) (fun hb55 ha55 => ?_)
      · exact absurd hb55 (by simp)
      clear ha54 hb55
      refine d_yg 25 ha55 rfl rfl rfl rfl rfl (fun _ => (m28.to ⟨.inl rfl, .inl rfl, .inl rfl, .inl rfl, .inl rfl, .inl rfl, .inl rfl, .inl rfl, .inl rfl, .inl rfl, .inl rfl, .inl rfl, .inl rfl, .inl rfl, trivial⟩)) (by kernel_rfl) (by kernel_rfl) (by kernel_rfl) (by rfl) (fun _ _ _ h => h) (fun W => y_move ha55 rfl) ?_
      clear ha55 a54; intro a56 ha56
      refine d_yg 26 ha56 rfl rfl rfl rfl rfl (fun _ => (m28.to ⟨.inl rfl, .inl rfl, .inl rfl, .inl rfl, .inl rfl, .inl rfl, .inl rfl, .inl rfl, .inl rfl, .inl rfl, .inl rfl, .inl rfl, .inl rfl, .inl rfl, trivial⟩)) (by kernel_rfl) (by kernel_rfl) (by kernel_rfl) (by rfl) (fun _ _ _ h => h) (fun W => y_move ha56 rfl) ?_
      clear ha56 a56; intro a57 ha57
      refine d_yg 27 ha57 rfl rfl rfl rfl rfl (fun _ => (m28.to ⟨.inl rfl, .inl rfl, .inl rfl, .inl rfl, .inl rfl, .inl rfl, .inl rfl, .inl rfl, .inl rfl, .inl rfl, .inl rfl, .inl rfl, .inl rfl, .inl rfl, trivial⟩)) (by kernel_rfl) (by kernel_rfl) (by kernel_rfl) (by rfl) (fun _ _ _ h => h) (fun W => y_idx ha57 rfl rfl Try.underlying27 sz35rf (k) rfl hk) ?_
      clear ha57 a57; intro a58 ha58
      refine d_yg 28 ha58 rfl rfl rfl rfl rfl (fun _ => (m28.to ⟨.inl rfl, .inl rfl, .inl rfl, .inl rfl, .inl rfl, .inl rfl, .inl rfl, .inl rfl, .inl rfl, .inl rfl, .inl rfl, .inl rfl, .inl rfl, .inl rfl, trivial⟩)) (by kernel_rfl) (by kernel_rfl) (by kernel_rfl) (by rfl) (fun _ _ _ h => h) (fun W => y_fieldAddrQ ha58 2 rfl Try.underlying35 rfl (s := 0) (by kernel_rfl) rfl) ?_
      clear ha58 a58; intro a59 ha59
      refine d_hg 29 ha59 rfl rfl rfl rfl rfl (m28.to ⟨.inl rfl, .inl rfl, .inl rfl, .inl rfl, .inl rfl, .inl rfl, .inl rfl, .inl rfl, .inl rfl, .inl rfl, .inl rfl, .inl rfl, .inl rfl, .inl rfl, trivial⟩) (by kernel_rfl) (by kernel_rfl) (by kernel_rfl) (by kernel_rfl) (by kernel_rfl) (fun _ _ _ h => h) (fun W hW => y_loadC1 ha59 hW (i := 108) (q := 2) rfl rfl rfl Try.underlying33 rfl) ?_
      clear ha59 a59; intro a60 ha60
      refine d_hg 30 ha60 rfl rfl rfl rfl rfl (m28.to ⟨.inl rfl, .inl rfl, .inl rfl, .inl rfl, .inl rfl, .inl rfl, .inl rfl, .inl rfl, .inl rfl, .inl rfl, .inl rfl, .inl rfl, .inl rfl, .inl rfl, trivial⟩) (by kernel_rfl) (by kernel_rfl) (by kernel_rfl) (by kernel_rfl) (by kernel_rfl) (fun _ _ _ h => h) (fun W hW => y_str ha60 rfl (hW.nums (i := 109) rfl) Try.underlying33 Try.underlying5 Try.underlying9) ?_
      clear ha60 a60; intro a61 ha61
      refine d_yg 31 ha61 rfl rfl rfl rfl rfl (fun _ => (m28.to ⟨.inl rfl, .inl rfl, .inl rfl, .inl rfl, .inl rfl, .inl rfl, .inl rfl, .inl rfl, .inl rfl, .inl rfl, .inl rfl, .inl rfl, .inl rfl, .inl rfl, trivial⟩)) (by kernel_rfl) (by kernel_rfl) (by kernel_rfl) (by rfl) (fun _ _ _ h => h) (fun W => y_move ha61 rfl) ?_
      clear ha61 a61; intro a62 ha62
      refine d_yg 32 ha62 rfl rfl rfl rfl rfl (fun _ => (m28.to ⟨.inl rfl, .inl rfl, .inl rfl, .inl rfl, .inl rfl, .inl rfl, .inl rfl, .inl rfl, .inl rfl, .inl rfl, .inl rfl, .inl rfl, .inl rfl, .inl rfl, trivial⟩)) (by kernel_rfl) (by kernel_rfl) (by kernel_rfl) (by rfl) (fun _ _ _ h => h) (fun W => y_move ha62 rfl) ?_
      clear ha62 a62; intro a63 ha63
      refine d_yg 33 ha63 rfl rfl rfl rfl rfl (fun _ => (m28.to ⟨.inl rfl, .inl rfl, .inl rfl, .inl rfl, .inl rfl, .inl rfl, .inl rfl, .inl rfl, .inl rfl, .inl rfl, .inl rfl, .inl rfl, .inl rfl, .inl rfl, trivial⟩)) (by kernel_rfl) (by kernel_rfl) (by kernel_rfl) (by rfl) (fun _ _ _ h => h) (fun W => y_idx ha63 rfl rfl Try.underlying27 sz35rf (k) rfl hk) ?_
      clear ha63 a63; intro a64 ha64
      refine d_yg 34 ha64 rfl rfl rfl rfl rfl (fun _ => (m28.to ⟨.inl rfl, .inl rfl, .inl rfl, .inl rfl, .inl rfl, .inl rfl, .inl rfl, .inl rfl, .inl rfl, .inl rfl, .inl rfl, .inl rfl, .inl rfl, .inl rfl, trivial⟩)) (by kernel_rfl) (by kernel_rfl) (by kernel_rfl) (by rfl) (fun _ _ _ h => h) (fun W => y_fieldAddrQ ha64 2 rfl Try.underlying35 rfl (s := 0) (by kernel_rfl) rfl) ?_
      clear ha64 a64; intro a65 ha65
      refine d_hg 35 ha65 rfl rfl rfl rfl rfl (m28.to ⟨.inl rfl, .inl rfl, .inl rfl, .inl rfl, .inl rfl, .inl rfl, .inl rfl, .inl rfl, .inl rfl, .inl rfl, .inl rfl, .inl rfl, .inl rfl, .inl rfl, trivial⟩) (by kernel_rfl) (by kernel_rfl) (by kernel_rfl) (by kernel_rfl) (by kernel_rfl) (fun _ _ _ h => h) (fun W hW => y_loadC1 ha65 hW (i := 110) (q := 2) rfl rfl rfl Try.underlying33 rfl) ?_
      clear ha65 a65; intro a66 ha66
      refine d_hg 36 ha66 rfl rfl rfl rfl rfl (m28.to ⟨.inl rfl, .inl rfl, .inl rfl, .inl rfl, .inl rfl, .inl rfl, .inl rfl, .inl rfl, .inl rfl, .inl rfl, .inl rfl, .inl rfl, .inl rfl, .inl rfl, trivial⟩) (by kernel_rfl) (by kernel_rfl) (by kernel_rfl) (by kernel_rfl) (by kernel_rfl) (fun _ _ _ h => h) (fun W hW => y_str ha66 rfl (hW.nums (i := 111) rfl) Try.underlying33 Try.underlying5 Try.underlying9) ?_
      clear ha66 a66; intro a67 ha67
      refine d_yg 37 ha67 rfl rfl rfl rfl rfl (fun _ => (m28.to ⟨.inl rfl, .inl rfl, .inl rfl, .inl rfl, .inl rfl, .inl rfl, .inl rfl, .inl rfl, .inl rfl, .inl rfl, .inl rfl, .inl rfl, .inl rfl, .inl rfl, trivial⟩)) (by kernel_rfl) (by kernel_rfl) (by kernel_rfl) (by rfl) (fun _ _ _ h => h) (fun W => y_neqS ha67 rfl rfl) ?_
      clear ha67 a67; intro a68 ha68
      refine d_y 38 ha68 rfl rfl (fun _ => (m28.to ⟨.inl rfl, .inl rfl, .inl rfl, .inl rfl, .inl rfl, .inl rfl, .inl rfl, .inl rfl, .inl rfl, .inl rfl, .inl rfl, .inl rfl, .inl rfl, .inl rfl, trivial⟩)) (by kernel_rfl) (by kernel_rfl) (by kernel_rfl) (by rfl) (fun _ _ _ h => h) (fun W => y_pickF ha68 rfl rfl) ?_
      clear ha68 a68; intro a69 ha69
      refine wpAnyE_done (by kernel_rfl) ?_ _
      refine hK8 _ _ ?_; clear hK8; try clear K8
      refine bool_cases ha69 (t := 55) rfl (fun hb70 ha70 => ?_) (fun hb70 ha70 => ?_)
      · exact absurd hb70 (by simp)
      clear ha69 hb70
      refine wp_cond_false (ha70.ev (x := .tmp 55) rfl) ?_
      refine wp_skip ?_
      refine hK7 _ _ ?_; clear hK7; try clear K7
      have ha71 : Has 56 [(0, _), (1, _), (5, _)] a69 := ha70.only [0, 1, 5]; clear ha70
      refine wp_region_lit ?_
      refine st_y ha71 rfl (y_move ha71 rfl) ?_
      clear ha71 a69; intro a72 ha72
      refine st_y ha72 rfl (y_add ha72 rfl rfl (r := ((k + 1 : Nat) : Int)) (by rw [IntWalk.i64_in _ (by omega)]; omega)) ?_
      clear ha72 a72; intro a73 ha73
      refine st_y ha73 rfl (y_assign ha73 rfl) ?_
      clear ha73 a73; intro a74 ha74
      refine wpList_nil ?_
      show ∃ n', n' < _ ∧ _
      exact ⟨fl.length - (k + 1), by omega, k + 1, _, _, _, _, by omega, rfl, ha74.only [0, 1, 5], m28.only [1, 2]⟩
    · skip
      clear ha13
      try simp only [decide_eq_true_eq, decide_eq_false_iff_not, Bool.not_eq_true, Bool.not_eq_false, Bool.not_eq_eq_eq_not, Bool.not_true, Bool.not_false, Bool.not_not, Int.not_lt, Int.not_le, ne_eq, Decidable.not_not] at hb14
      obtain rfl : k = fl.length := by omega
      refine wp_cond_false (ha14.ev (x := .tmp 14) rfl) ?_
      refine wp_exit ?_
      refine hK3 _ _ ?_; clear hK3; try clear K3
      refine wp_seq_k (fun K9 hK9 => ?_)
      refine wp_region_lit ?_
      refine st_y ha14 rfl (y_assign ha14 rfl) ?_
      clear ha14 a13; intro a75 ha75
      refine wpList_nil ?_
      refine hK9 _ _ ?_; clear hK9; try clear K9
      refine wp_ret ?_
      try dsimp only [Exit.then, Exit.inBlock]
      refine (ret1 (fn := Try.f12) ha75 rfl rfl ?_)
      exact ⟨by simp, m9.below⟩
end Go.Proofs.Ytnllgfmjcnjgdaa.K
