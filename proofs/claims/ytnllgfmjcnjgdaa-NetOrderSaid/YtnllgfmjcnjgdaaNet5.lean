/- net.Send, its argument only read. -/
import Derived.Test.YtnllgfmjcnjgdaaNet4
import Derived.Test.YtnllgfmjcnjgdaaAb10
namespace Go.Proofs.Ytnllgfmjcnjgdaa.K
open Go.ChangeShapes Go.WideShapes Go.ChangeAt Go.RowKit
set_option linter.unusedVariables false
set_option linter.unusedSimpArgs false

theorem inf35x : (Try.prog.info? 35).map (fun i => (i.zero, i.size, i.bytes)) = some (some (.agg #[.int .i64 0, .int .i64 0, .slice none 0 0]), 3, 40) := by kernel_rfl
theorem sz27x : (Try.prog.info? 27).map (·.size) = some 1 := by kernel_rfl
theorem sz35x : (Try.prog.info? 35).map (·.size) = some 3 := by kernel_rfl
theorem zc35x : ((Try.prog.info? 35).bind (·.zero)).map (·.cells.toList) = some [.int .i64 0, .int .i64 0, .slice none 0 0] := by kernel_rfl

set_option maxRecDepth 100000
set_option maxHeartbeats 4000000
theorem send_ext (S S2 : Nat → Prop) (B : Nat) (v0 : Value) (rows : List (List D)) (fl : List (Int × Int × List Int)) (pl : Option Addr) (cl : Nat) (w0 : World) (hB : Blk w0 B 48 [v0]) (hs : SegOk (fun b => S b ∧ b ≠ B ∧ v0.ownBlock ≠ some b) w0 v0 35 3 rows) (hne : v0.ownBlock ≠ some B) (hl : Rd S2 w0 (.slice pl fl.length cl) (.l 3 (fl.map flD))) (hS2 : ∀ b, S2 b → b ≠ B ∧ v0.ownBlock ≠ some b) (hn : rows.length ≤ 1000 ∧ fl.length ≤ 1000) (hfd : ∀ f ∈ fl, f.2.2.length ≤ 100000) :
    Calls Try.prog 8 #[.pointer (some ⟨B, 0, none⟩), .slice pl fl.length cl] w0 fun e w' => e = .returned (.tuple #[]) ∧ ∃ v', PoolAt S w0 B 48 35 3 v0 (rows ++ fl.map flD) w' v' := by
  refine enter (fn := Try.f8) Try.func8 rfl Try.ntmps8 rfl (fun a0 ha0 => ?_)
  simp only [List.zipIdx_cons, List.zipIdx_nil, List.map_cons, List.map_nil, Nat.reduceAdd, Nat.zero_add] at ha0
  have m00 := MemOk.startP S w0 hB hs hne
  obtain ⟨p, c, hv⟩ := hs.shape
  have hR0 : rows ++ (fl.take 0).map flD = rows := by simp
  have m0 : MemOk (cxp S w0 B v0) w0 [(1, .box B 48 [.slice p (rows ++ (fl.take 0).map flD).length c]), (2, .seg (.slice p (rows ++ (fl.take 0).map flD).length c) 35 3 (rows ++ (fl.take 0).map flD))] w0 := by
    rw [hR0, ← hv]; exact m00
  clear m00
  have hX : ∀ b, S2 b → b ∉ (cxp S w0 B v0).bad := fun b hb h => by
    simp [cxp] at h
    rcases h with h | h
    · exact (hS2 b hb).1 h
    · exact (hS2 b hb).2 h
  refine wp_seq_k (fun K0 hK0 => ?_)
  refine wp_region_lit ?_
  refine st_y ha0 rfl (y_move ha0 rfl) ?_
  clear ha0 a0; intro a1 ha1
  refine st_y ha1 rfl (y_len ha1 rfl Try.underlying27) ?_
  clear ha1 a1; intro a2 ha2
  refine st_y ha2 rfl (y_move ha2 rfl) ?_
  clear ha2 a2; intro a3 ha3
  refine wpList_nil ?_
  refine hK0 _ _ ?_; clear hK0; try clear K0
  refine wp_block ?_
  refine wp_loop_ghost (fun g a w => ∃ (k : Nat) (p pl : Option Addr) (c cl : Nat), k ≤ fl.length ∧ g = fl.length - k ∧ Rd S2 w0 (.slice pl fl.length cl) (.l 3 (fl.map flD)) ∧ Has 24 [(0, .pointer (some ⟨B, 0, none⟩)), (6, .slice pl fl.length cl), (7, .int .i64 fl.length), (8, .int .i64 k)] a ∧ MemOk (cxp S w0 B v0) w0 [(1, .box B 48 [.slice p (rows ++ (fl.take k).map flD).length c]), (2, .seg (.slice p (rows ++ (fl.take k).map flD).length c) 35 3 (rows ++ (fl.take k).map flD))] w) (fl.length) ?_ ?_
  · exact ⟨0, _, _, _, _, Nat.zero_le _, rfl, hl, ha3.only [0, 6, 7, 8], m0.only [1, 2]⟩
  · skip
    clear ha3 m0
    rintro g a4 w4 ⟨k, p, pl, c, cl, hkl, hg, hl, ha4, m4⟩
    refine wp_seq_k (fun K1 hK1 => ?_)
    refine wp_region_lit ?_
    refine st_y ha4 rfl (y_lss ha4 rfl rfl) ?_
    clear ha4 a4; intro a5 ha5
    refine wpList_nil ?_
    refine hK1 _ _ ?_; clear hK1; try clear K1
    refine wp_seq_k (fun K2 hK2 => ?_)
    refine bool_cases ha5 (t := 9) rfl (fun hb6 ha6 => ?_) (fun hb6 ha6 => ?_)
    · skip
      clear ha5
      try simp only [decide_eq_true_eq, decide_eq_false_iff_not, Bool.not_eq_true, Bool.not_eq_false, Bool.not_eq_eq_eq_not, Bool.not_true, Bool.not_false, Bool.not_not, Int.not_lt, Int.not_le, ne_eq, Decidable.not_not] at hb6
      have hk : k < fl.length := by omega
      obtain ⟨⟨ff, ft, fd⟩, hfl⟩ : ∃ e, fl[k]? = some e := ⟨_, List.getElem?_eq_getElem hk⟩
      have hfd1 := hfd _ (List.mem_of_getElem? hfl)
      dsimp only at hfd1
      refine wp_cond_true (ha6.ev (x := .tmp 9) rfl) ?_
      refine wp_skip ?_
      refine hK2 _ _ ?_; clear hK2; try clear K2
      refine wp_seq_k (fun K3 hK3 => ?_)
      refine wp_block ?_
      refine wp_seq_k (fun K4 hK4 => ?_)
      refine wp_region_lit ?_
      obtain ⟨gx, ox, vsx, hpx, hlx, hRx, hrx⟩ := hl.ext m4 hX k (r := [.v (.int .i64 ff), .v (.int .i64 ft), .ns .u8 fd]) (fl_get hfl)
      cases hpx; clear hlx
      rcases hRx with _ | ⟨hd0, _ | ⟨hd1, _ | ⟨hx, _ | _⟩⟩⟩
      obtain rfl := hd0.v_out
      obtain rfl := hd1.v_out
      clear hd0 hd1
      obtain ⟨px, cx9, hvx, hwx⟩ := hx.ns_shape; subst hvx
      refine st_y ha6 rfl (y_idx ha6 rfl rfl Try.underlying27 sz35x k rfl hk) ?_
      clear ha6 a5; intro a7 ha7
      refine st_y ha7 rfl (y_loadAt ha7 hrx rfl Try.underlying35 rfl sz35x) ?_
      clear ha7 a7; intro a8 ha8
      refine wpList_plain rfl (fun K hK => ?_)
      refine e_alloc ha8 m4 100 zc35x rfl ?_
      clear ha8 a8 m4; intro g9 a10 w10 ha10 m10 hB10 hg10
      clear hB10 hg10
      refine hK _ _ ?_; clear hK K
      refine wpList_plain rfl (fun K hK => ?_)
      refine e_storeW ha10 m10 100 rfl rfl rfl rfl rfl sz35x ?_
      clear m10; intro w11 m11 hB11
      clear hB11
      refine hK _ _ ?_; clear hK K
      refine wpList_nil ?_
      refine hK4 _ _ ?_; clear hK4; try clear K4
      have m12 : MemOk _ _ [(1, _), (2, _), (100, _)] _ := m11.only [1, 2, 100]; clear m11
      refine region_m 8 (B := [(1, _), (2, _), (100, _)]) (m12.to ⟨.inl rfl, .inl rfl, .inl rfl, trivial⟩) m12 (by kernel_rfl) (fun w13 mB13 m13 => ?_); clear m12 mB13
      refine d_y 0 ha10 rfl rfl (fun _ => (m13.to ⟨.inl rfl, .inl rfl, .inl rfl, trivial⟩)) (by kernel_rfl) (by kernel_rfl) (by kernel_rfl) (by rfl) (fun _ _ _ h => h) (fun W => y_move ha10 rfl) ?_
      clear ha10 a10; intro a14 ha14
      refine d_y 1 ha14 rfl rfl (fun _ => (m13.to ⟨.inl rfl, .inl rfl, .inl rfl, trivial⟩)) (by kernel_rfl) (by kernel_rfl) (by kernel_rfl) (by rfl) (fun _ _ _ h => h) (fun W => y_move ha14 rfl) ?_
      clear ha14 a14; intro a15 ha15
      refine d_y 2 ha15 rfl rfl (fun _ => (m13.to ⟨.inl rfl, .inl rfl, .inl rfl, trivial⟩)) (by kernel_rfl) (by kernel_rfl) (by kernel_rfl) (by rfl) (fun _ _ _ h => h) (fun W => y_nilCheck ha15 rfl) ?_
      clear ha15 a15; intro a16 ha16
      refine d_y 3 ha16 rfl rfl (fun _ => (m13.to ⟨.inl rfl, .inl rfl, .inl rfl, trivial⟩)) (by kernel_rfl) (by kernel_rfl) (by kernel_rfl) (by rfl) (fun _ _ _ h => h) (fun W => y_fieldAddr ha16 (off := 0) rfl Try.underlying48 rfl (s := 0) (by kernel_rfl) rfl) ?_
      clear ha16 a16; intro a17 ha17
      refine d_r 4 ha17 rfl rfl (m13.to ⟨.inl rfl, .inl rfl, .inl rfl, trivial⟩) (by kernel_rfl) (by kernel_rfl) (by kernel_rfl) (by kernel_rfl) (by kernel_rfl) (fun _ _ _ h => h) (fun W hW => y_loadB1 ha17 hW (i := 1) rfl rfl rfl Try.underlying27 rfl) ?_
      clear ha17 a17; intro a18 ha18
      refine d_r 5 ha18 rfl rfl (m13.to ⟨.inl rfl, .inl rfl, .inl rfl, trivial⟩) (by kernel_rfl) (by kernel_rfl) (by kernel_rfl) (by kernel_rfl) (by kernel_rfl) (fun _ _ _ h => h) (fun W hW => y_loadBR ha18 hW (i := 100) rfl rfl Try.underlying35 rfl sz35x (by simp) (by dsimp only [List.drop, List.take] <;> rfl)) ?_
      clear ha18 a18; intro a19 ha19
      refine stepE_only 6 rfl (by kernel_rfl) rfl (fun K hK => ?_)
      refine e_call ha19 Try.func17 rfl rfl rfl rfl (copied_any _ _ _ _ _ _ _ (hx.now m13 hX).any hfd1) ?_
      rintro e w20 ⟨u20, c20, rfl, ho20, hb20⟩
      have m21 := m13.newN 101 hb20 ho20
      clear m13
      clear hb20 ho20
      refine ⟨_, rfl, fun a22 ha22 => ?_⟩; clear ha19 a19
      refine hK _ _ (m21.to ⟨.inl rfl, .inl rfl, .inl rfl, trivial⟩) ?_; clear hK K
      have m24 := m21.freezeN 101 rfl; clear m21
      refine stepE_only 7 rfl (by kernel_rfl) rfl (fun K hK => ?_)
      refine e_litR ha22 m24 102 (mm := 3) rfl (.cons rfl rfl (.cons (.v _) (.cons (.v _) (.cons (m24.rd (i := 101) rfl) .nil))) <| .nil) Try.underlying27 inf35x rfl rfl rfl rfl rfl ?_
      clear ha22 a22 m24; intro g23 a25 w25 ha25 m25 
      refine hK _ _ (m25.to ⟨.inl rfl, .inl rfl, .inl rfl, trivial⟩) ?_; clear hK K
      have m27 := m25.freezeR 102 rfl; clear m25
      refine stepE_end 8 rfl (by kernel_rfl) rfl (by rfl) (fun K hK => ?_)
      refine e_appSA ha25 m27 2 rfl rfl rfl (m27.rd (i := 102) rfl).cells Try.underlying27 inf35x rfl rfl (by decide) (by simp; omega) rfl ?_
      clear ha25 a25 m27; intro p26 c26 a28 w28 ha28 m28 
      refine hK _ _ ?_; clear hK K
      refine d_y 9 ha28 rfl rfl (fun h => (Bool.false_ne_true (h.symm.trans (by rfl))).elim) (by kernel_rfl) (by kernel_rfl) (by kernel_rfl) (by rfl) (fun _ _ _ h => h) (fun W => y_nilCheck ha28 rfl) ?_
      clear ha28 a28; intro a29 ha29
      refine d_y 10 ha29 rfl rfl (fun h => (Bool.false_ne_true (h.symm.trans (by rfl))).elim) (by kernel_rfl) (by kernel_rfl) (by kernel_rfl) (by rfl) (fun _ _ _ h => h) (fun W => y_fieldAddr ha29 (off := 0) rfl Try.underlying48 rfl (s := 0) (by kernel_rfl) rfl) ?_
      clear ha29 a29; intro a30 ha30
      refine stepE_end 11 rfl (by kernel_rfl) rfl (by rfl) (fun K hK => ?_)
      refine e_store1 ha30 m28 1 rfl rfl rfl rfl rfl sz27x (by dsimp only [List.set] <;> rfl) ?_
      clear m28; intro w31 m31 hB31
      clear hB31
      refine hK _ _ ?_; clear hK K
      refine wpAnyE_done (by kernel_rfl) ?_ _
      refine hK3 _ _ ?_; clear hK3; try clear K3
      have ha32 : Has 24 [(0, _), (6, _), (7, _), (8, _)] a30 := ha30.only [0, 6, 7, 8]; clear ha30
      refine wp_region_lit ?_
      refine st_y ha32 rfl (y_add ha32 rfl rfl (r := ((k + 1 : Nat) : Int)) (by rw [IntWalk.i64_in _ (by omega)]; omega)) ?_
      clear ha32 a30; intro a33 ha33
      refine st_y ha33 rfl (y_move ha33 rfl) ?_
      clear ha33 a33; intro a34 ha34
      refine wpList_nil ?_
      show ∃ n', n' < _ ∧ _
      have hE : (rows ++ (fl.take k).map flD) ++ [[D.v (.int .i64 ff), .v (.int .i64 ft), .ns .u8 fd]] = rows ++ (fl.take (k + 1)).map flD := by rw [take_snoc hfl, List.map_append, ← List.append_assoc]; rfl
      rw [hE] at m31
      exact ⟨fl.length - (k + 1), by omega, k + 1, _, _, _, _, by omega, rfl, hl, ha34.only [0, 6, 7, 8], m31.only [1, 2]⟩
    · skip
      clear ha5
      try simp only [decide_eq_true_eq, decide_eq_false_iff_not, Bool.not_eq_true, Bool.not_eq_false, Bool.not_eq_eq_eq_not, Bool.not_true, Bool.not_false, Bool.not_not, Int.not_lt, Int.not_le, ne_eq, Decidable.not_not] at hb6
      obtain rfl : k = fl.length := by omega
      refine wp_cond_false (ha6.ev (x := .tmp 9) rfl) ?_
      refine wp_exit ?_
      try dsimp only [Exit.then]
      try refine out_here ?_
      refine (ret0 (fn := Try.f8) ha6 rfl ?_)
      rw [List.take_length] at m4
      exact ⟨rfl, _, m4.outP (i := 1) (j := 2) (by decide) rfl rfl hB.lt⟩
end Go.Proofs.Ytnllgfmjcnjgdaa.K
