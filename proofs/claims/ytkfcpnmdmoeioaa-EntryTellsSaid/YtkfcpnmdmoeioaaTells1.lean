/- What EntryTells' walk holds: the bent entry; bytes that come back. -/
import Derived.Test.YtkfcpnmdmoeioaaReads2
namespace Go.Proofs.Ytkfcpnmdmoeioaa.K
open Go.ChangeShapes Go.WideShapes Go.ChangeAt Go.RowKit
set_option linter.unusedVariables false
set_option linter.unusedSimpArgs false

theorem inf5b : (Try.prog.info? 5).map (fun i => (i.zero, i.size, i.bytes)) = some (some (.int .u8 0), 1, 1) := by kernel_rfl
theorem sz3b : (Try.prog.info? 3).map (·.size) = some 1 := by kernel_rfl
theorem sz22b : (Try.prog.info? 22).map (·.size) = some 1 := by kernel_rfl
theorem sz24b : (Try.prog.info? 24).map (·.size) = some 4 := by kernel_rfl
theorem zc24b : ((Try.prog.info? 24).bind (·.zero)).map (·.cells.toList) = some [.int .i64 0, .int .i64 0, .int .i64 0, .slice none 0 0] := by kernel_rfl

def bentV (i t k : Int) (d : List Int) (what v : Int) : Int × Int × Int × List Int :=
  if what.tmod 4 = 0 then (v, t, k, d) else if what.tmod 4 = 1 then (i, v, k, d) else if what.tmod 4 = 2 then (i, t, v, d) else (i, t, k, [IntKind.u8.wrap v, IntKind.u8.wrap (v.fdiv 256)])
section
variable {i t k what v : Int} {d : List Int}
theorem bent_0 (h : what.tmod 4 = 0) : bentV i t k d what v = (v, t, k, d) := by unfold bentV; rw [if_pos h]
theorem bent_1 (h0 : ¬ what.tmod 4 = 0) (h : what.tmod 4 = 1) : bentV i t k d what v = (i, v, k, d) := by unfold bentV; rw [if_neg h0, if_pos h]
theorem bent_2 (h0 : ¬ what.tmod 4 = 0) (h1 : ¬ what.tmod 4 = 1) (h : what.tmod 4 = 2) : bentV i t k d what v = (i, t, v, d) := by unfold bentV; rw [if_neg h0, if_neg h1, if_pos h]
theorem bent_3 (h0 : ¬ what.tmod 4 = 0) (h1 : ¬ what.tmod 4 = 1) (h : ¬ what.tmod 4 = 2) : bentV i t k d what v = (i, t, k, [IntKind.u8.wrap v, IntKind.u8.wrap (v.fdiv 256)]) := by unfold bentV; rw [if_neg h0, if_neg h1, if_neg h]
end
theorem ent_back (i t k : Int) (d more : List Int) (h : entOk i t k d = true) (hl : d.length ≤ 1000) : entRV (entB i t k d ++ more) 0 = (i, t, k, d) ∧ entROk (entB i t k d ++ more) 0 = true ∧ (entR (entB i t k d ++ more) 0).2.1 = more := by
  have hb : (1 ≤ i ∧ i ≤ 1099511627776) ∧ (0 ≤ t ∧ t ≤ 1099511627776) ∧ 0 ≤ k ∧ k ≤ 2 := by
    unfold entOk timeOk dataOk at h
    simp only [Bool.and_eq_true, decide_eq_true_eq] at h
    refine ⟨h.1.1, h.1.2, ?_⟩
    have h2 := h.2
    split at h2
    · omega
    · split at h2
      · omega
      · split at h2
        · omega
        · cases h2
  have hr : entR (entB i t k d ++ more) 0 = ((i, t, k, d), more, 0) := by
    have e : entB i t k d ++ more = enc i ++ (enc t ++ (enc k ++ (enc d.length ++ (d ++ more)))) := by simp [entB, encs]
    unfold entR
    rw [e, numR_ok i (by omega) (by omega) _ 1099511627776 (by omega)]
    dsimp only
    rw [numR_ok t (by omega) (by omega) _ 1099511627776 (by omega)]
    dsimp only
    rw [numR_ok k (by omega) (by omega) _ 2 (by omega)]
    dsimp only
    rw [lumpR_ok d more 32767 (by omega) (by omega)]
  have ho : entROk (entB i t k d ++ more) 0 = true := by unfold entROk; rw [hr]; simpa using h
  exact ⟨by unfold entRV; rw [if_pos ho, hr], ho, by rw [hr]⟩
theorem confN_ok (cf rest : List Int) (h : ∀ j, j < cf.length → 0 ≤ cf.getD j 0 ∧ cf.getD j 0 ≤ 6) : ∀ k, k ≤ cf.length → confN (encs cf ++ rest) 0 k = (cf.take k, encs (cf.drop k) ++ rest, 0)
  | 0, _ => by simp [confN]
  | k + 1, hk => by
    have hj := h k (by omega)
    have hlt : k < cf.length := by omega
    have hd : cf.drop k = cf.getD k 0 :: cf.drop (k + 1) := by rw [List.drop_eq_getElem_cons hlt]; simp [List.getD, hlt]
    have ht : cf.take (k + 1) = cf.take k ++ [cf.getD k 0] := by rw [List.take_succ_eq_append_getElem hlt]; simp [List.getD, hlt]
    rw [confN, confN_ok cf rest h k (by omega)]
    dsimp only
    have e : encs (cf.drop k) ++ rest = enc (cf.getD k 0) ++ (encs (cf.drop (k + 1)) ++ rest) := by rw [hd, encs, List.flatMap_cons, List.append_assoc]; rfl
    rw [e, numR_ok _ hj.1 (by omega) _ 6 hj.2, ht]
theorem base_back (i t : Int) (cf d more : List Int) (h : baseOk i t cf d = true) (hl : d.length ≤ 1000) : baseRV (baseB i t cf d ++ more) 0 = (i, t, cf, d) ∧ baseROk (baseB i t cf d ++ more) 0 = true ∧ (baseR (baseB i t cf d ++ more) 0).2.1 = more := by
  have hb := baseOk_bd h
  have hc := right_bd hb.2.2.1
  have e : baseB i t cf d ++ more = enc i ++ (enc t ++ (enc (cf.length : Int) ++ (encs cf ++ (enc d.length ++ (d ++ more))))) := by simp [baseB, encs]
  have h1 : bR1 (baseB i t cf d ++ more) 0 = (i, enc t ++ (enc (cf.length : Int) ++ (encs cf ++ (enc d.length ++ (d ++ more)))), 0) := by
    unfold bR1; rw [e, numR_ok i (by omega) (by omega) _ 1099511627776 (by omega)]
  have h2 : bR2 (baseB i t cf d ++ more) 0 = (t, enc (cf.length : Int) ++ (encs cf ++ (enc d.length ++ (d ++ more))), 0) := by
    unfold bR2; rw [h1]; dsimp only; rw [numR_ok t (by omega) (by omega) _ 1099511627776 (by omega)]
  have h3 : bR3 (baseB i t cf d ++ more) 0 = ((cf.length : Int), encs cf ++ (enc d.length ++ (d ++ more)), 0) := by
    unfold bR3; rw [h2]; dsimp only; rw [numR_ok _ (by omega) (by omega) _ 7 (by omega)]
  have h4 : bR4 (baseB i t cf d ++ more) 0 = (cf, enc d.length ++ (d ++ more), 0) := by
    unfold bR4; rw [h3]; dsimp only
    rw [Int.toNat_natCast, confN_ok cf _ hc.2 cf.length (Nat.le_refl _)]
    simp [encs]
  have h5 : bR5 (baseB i t cf d ++ more) 0 = (d, more, 0) := by
    unfold bR5; rw [h4]; dsimp only; rw [lumpR_ok d more 32767 (by omega) (by omega)]
  have hr : baseR (baseB i t cf d ++ more) 0 = ((i, t, cf, d), more, 0) := by
    unfold baseR; rw [h1, h2, h4, h5]
  have ho : baseROk (baseB i t cf d ++ more) 0 = true := by unfold baseROk; rw [hr]; simpa using h
  exact ⟨by unfold baseRV; rw [if_pos ho, hr], ho, by rw [hr]⟩
set_option maxRecDepth 100000 in
set_option maxHeartbeats 4000000 in
theorem bent_any (S : Nat → Prop) (i t k what v : Int) (d : List Int) (p : Option Addr) (c : Nat) (w0 : World) (h0 : Rd S w0 (.slice p d.length c) (.ns .u8 d)) :
    Calls Try.prog 8 #[.agg #[.int .i64 i, .int .i64 t, .int .i64 k, .slice p d.length c], .int .u8 what, .int .i64 v] w0 fun e w' => ∃ p' c', e = .returned (entV (bentV i t k d what v).1 (bentV i t k d what v).2.1 (bentV i t k d what v).2.2.1 (.slice p' (bentV i t k d what v).2.2.2.length c')) ∧ Rd (Out S w0) w' (.slice p' (bentV i t k d what v).2.2.2.length c') (.ns .u8 (bentV i t k d what v).2.2.2) ∧ Below w0.heap.size w0 w' := by
  refine enter (fn := Try.f8) Try.func8 rfl Try.ntmps8 rfl (fun a0 ha0 => ?_)
  simp only [List.zipIdx_cons, List.zipIdx_nil, List.map_cons, List.map_nil, Nat.reduceAdd, Nat.zero_add] at ha0
  have m0 := (MemOk.start S w0).dat 1 rfl (h0.cast (fun _ h => free_nil (fun _ => h)))
  refine wp_seq_k (fun K0 hK0 => ?_)
  refine wp_region_lit ?_
  refine wpList_plain rfl (fun K hK => ?_)
  refine e_box ha0 m0 2 (cs := [_, _, _, _]) rfl rfl rfl ?_
  clear ha0 a0 m0; intro g1 a2 w2 ha2 m2 hB2 hg2
  clear hB2 hg2
  refine hK _ _ ?_; clear hK K
  refine wpList_plain rfl (fun K hK => ?_)
  refine e_alloc ha2 m2 3 zc24b rfl ?_
  clear ha2 a2 m2; intro g3 a4 w4 ha4 m4 hB4 hg4
  clear hB4 hg4
  refine hK _ _ ?_; clear hK K
  refine wpList_nil ?_
  refine hK0 _ _ ?_; clear hK0; try clear K0
  refine wp_seq_k (fun K1 hK1 => ?_)
  refine wp_seq_k (fun K2 hK2 => ?_)
  refine wp_region_lit ?_
  refine st_y ha4 rfl (y_move ha4 rfl) ?_
  clear ha4 a4; intro a5 ha5
  refine st_y ha5 rfl (y_rem ha5 rfl rfl (by decide) rfl) ?_
  clear ha5 a5; intro a6 ha6
  refine wpList_nil ?_
  refine hK2 _ _ ?_; clear hK2; try clear K2
  refine wp_block ?_
  refine wp_seq_k (fun K3 hK3 => ?_)
  refine wp_region_lit ?_
  refine st_y ha6 rfl (y_eql ha6 rfl rfl) ?_
  clear ha6 a6; intro a7 ha7
  refine st_y ha7 rfl (y_assign ha7 rfl) ?_
  clear ha7 a7; intro a8 ha8
  refine wpList_nil ?_
  refine hK3 _ _ ?_; clear hK3; try clear K3
  refine bool_cases ha8 (t := 16) rfl (fun hb9 ha9 => ?_) (fun hb9 ha9 => ?_)
  · skip
    clear ha8
    try simp only [decide_eq_true_eq, decide_eq_false_iff_not, Bool.not_eq_true, Bool.not_eq_false, Bool.not_eq_eq_eq_not, Bool.not_true, Bool.not_false, Bool.not_not, Int.not_lt, Int.not_le, ne_eq, Decidable.not_not] at hb9
    refine wp_cond_true (ha9.ev (x := .tmp 16) rfl) ?_
    refine wp_region_lit ?_
    refine st_y ha9 rfl (y_move ha9 rfl) ?_
    clear ha9 a8; intro a10 ha10
    refine st_y ha10 rfl (y_fieldAddr ha10 (off := 0) rfl Try.underlying24 rfl (s := 0) (by kernel_rfl) rfl) ?_
    clear ha10 a10; intro a11 ha11
    refine wpList_plain rfl (fun K hK => ?_)
    refine e_store1 ha11 m4 2 rfl rfl rfl rfl rfl sz3b (by dsimp only [List.set] <;> rfl) ?_
    clear m4; intro w12 m12 hB12
    clear hB12
    refine hK _ _ ?_; clear hK K
    refine wpList_nil ?_
    refine hK1 _ _ ?_; clear hK1; try clear K1
    refine wp_seq_k (fun K4 hK4 => ?_)
    have ha13 : Has 29 [(3, _), (6, _)] a11 := ha11.only [3, 6]; clear ha11
    refine wp_region_lit ?_
    refine st_y ha13 rfl (y_loadBR ha13 m12 (i := 2) rfl rfl Try.underlying24 rfl sz24b (by simp) (by dsimp only [List.drop, List.take] <;> rfl)) ?_
    clear ha13 a11; intro a14 ha14
    refine wpList_plain rfl (fun K hK => ?_)
    refine e_storeW ha14 m12 3 rfl rfl rfl rfl rfl sz24b ?_
    clear m12; intro w15 m15 hB15
    clear hB15
    refine hK _ _ ?_; clear hK K
    refine wpList_nil ?_
    refine hK4 _ _ ?_; clear hK4; try clear K4
    refine wp_ret ?_
    try dsimp only [Exit.then, Exit.inBlock]
    refine (retC (fn := Try.f8) ha14 m15 (i := 3) rfl rfl rfl Try.underlying24 rfl sz24b ?_)
    rw [bent_0 hb9]
    exact ⟨_, _, rfl, m15.outD (i := 1) rfl, m15.below⟩
  · skip
    clear ha8
    try simp only [decide_eq_true_eq, decide_eq_false_iff_not, Bool.not_eq_true, Bool.not_eq_false, Bool.not_eq_eq_eq_not, Bool.not_true, Bool.not_false, Bool.not_not, Int.not_lt, Int.not_le, ne_eq, Decidable.not_not] at hb9
    refine wp_cond_false (ha9.ev (x := .tmp 16) rfl) ?_
    refine wp_seq_k (fun K5 hK5 => ?_)
    refine wp_region_lit ?_
    refine st_y ha9 rfl (y_eql ha9 rfl rfl) ?_
    clear ha9 a8; intro a16 ha16
    refine st_y ha16 rfl (y_assign ha16 rfl) ?_
    clear ha16 a16; intro a17 ha17
    refine wpList_nil ?_
    refine hK5 _ _ ?_; clear hK5; try clear K5
    refine bool_cases ha17 (t := 20) rfl (fun hb18 ha18 => ?_) (fun hb18 ha18 => ?_)
    · skip
      clear ha17
      try simp only [decide_eq_true_eq, decide_eq_false_iff_not, Bool.not_eq_true, Bool.not_eq_false, Bool.not_eq_eq_eq_not, Bool.not_true, Bool.not_false, Bool.not_not, Int.not_lt, Int.not_le, ne_eq, Decidable.not_not] at hb18
      refine wp_cond_true (ha18.ev (x := .tmp 20) rfl) ?_
      have ha19 : Has 29 [(2, _), (3, _), (6, _), (8, _)] a17 := ha18.only [2, 3, 6, 8]; clear ha18
      refine wp_region_lit ?_
      refine st_y ha19 rfl (y_move ha19 rfl) ?_
      clear ha19 a17; intro a20 ha20
      refine st_y ha20 rfl (y_fieldAddr ha20 (off := 1) rfl Try.underlying24 rfl (s := 0) (by kernel_rfl) rfl) ?_
      clear ha20 a20; intro a21 ha21
      refine wpList_plain rfl (fun K hK => ?_)
      refine e_store1 ha21 m4 2 rfl rfl rfl rfl rfl sz3b (by dsimp only [List.set] <;> rfl) ?_
      clear m4; intro w22 m22 hB22
      clear hB22
      refine hK _ _ ?_; clear hK K
      refine wpList_nil ?_
      refine hK1 _ _ ?_; clear hK1; try clear K1
      refine wp_seq_k (fun K6 hK6 => ?_)
      refine wp_region_lit ?_
      refine st_y ha21 rfl (y_loadBR ha21 m22 (i := 2) rfl rfl Try.underlying24 rfl sz24b (by simp) (by dsimp only [List.drop, List.take] <;> rfl)) ?_
      clear ha21 a21; intro a23 ha23
      refine wpList_plain rfl (fun K hK => ?_)
      refine e_storeW ha23 m22 3 rfl rfl rfl rfl rfl sz24b ?_
      clear m22; intro w24 m24 hB24
      clear hB24
      refine hK _ _ ?_; clear hK K
      refine wpList_nil ?_
      refine hK6 _ _ ?_; clear hK6; try clear K6
      refine wp_ret ?_
      try dsimp only [Exit.then, Exit.inBlock]
      refine (retC (fn := Try.f8) ha23 m24 (i := 3) rfl rfl rfl Try.underlying24 rfl sz24b ?_)
      rw [bent_1 hb9 hb18]
      exact ⟨_, _, rfl, m24.outD (i := 1) rfl, m24.below⟩
    · skip
      clear ha17
      try simp only [decide_eq_true_eq, decide_eq_false_iff_not, Bool.not_eq_true, Bool.not_eq_false, Bool.not_eq_eq_eq_not, Bool.not_true, Bool.not_false, Bool.not_not, Int.not_lt, Int.not_le, ne_eq, Decidable.not_not] at hb18
      refine wp_cond_false (ha18.ev (x := .tmp 20) rfl) ?_
      refine wp_seq_k (fun K7 hK7 => ?_)
      have ha25 : Has 29 [(2, _), (3, _), (6, _), (8, _)] a17 := ha18.only [2, 3, 6, 8]; clear ha18
      refine wp_region_lit ?_
      refine st_y ha25 rfl (y_eql ha25 rfl rfl) ?_
      clear ha25 a17; intro a26 ha26
      refine st_y ha26 rfl (y_assign ha26 rfl) ?_
      clear ha26 a26; intro a27 ha27
      refine wpList_nil ?_
      refine hK7 _ _ ?_; clear hK7; try clear K7
      refine bool_cases ha27 (t := 24) rfl (fun hb28 ha28 => ?_) (fun hb28 ha28 => ?_)
      · skip
        clear ha27
        try simp only [decide_eq_true_eq, decide_eq_false_iff_not, Bool.not_eq_true, Bool.not_eq_false, Bool.not_eq_eq_eq_not, Bool.not_true, Bool.not_false, Bool.not_not, Int.not_lt, Int.not_le, ne_eq, Decidable.not_not] at hb28
        refine wp_cond_true (ha28.ev (x := .tmp 24) rfl) ?_
        refine wp_region_lit ?_
        refine st_y ha28 rfl (y_move ha28 rfl) ?_
        clear ha28 a27; intro a29 ha29
        refine st_y ha29 rfl (y_fieldAddr ha29 (off := 2) rfl Try.underlying24 rfl (s := 0) (by kernel_rfl) rfl) ?_
        clear ha29 a29; intro a30 ha30
        refine wpList_plain rfl (fun K hK => ?_)
        refine e_store1 ha30 m4 2 rfl rfl rfl rfl rfl sz3b (by dsimp only [List.set] <;> rfl) ?_
        clear m4; intro w31 m31 hB31
        clear hB31
        refine hK _ _ ?_; clear hK K
        refine wpList_nil ?_
        refine hK1 _ _ ?_; clear hK1; try clear K1
        refine wp_seq_k (fun K8 hK8 => ?_)
        refine wp_region_lit ?_
        refine st_y ha30 rfl (y_loadBR ha30 m31 (i := 2) rfl rfl Try.underlying24 rfl sz24b (by simp) (by dsimp only [List.drop, List.take] <;> rfl)) ?_
        clear ha30 a30; intro a32 ha32
        refine wpList_plain rfl (fun K hK => ?_)
        refine e_storeW ha32 m31 3 rfl rfl rfl rfl rfl sz24b ?_
        clear m31; intro w33 m33 hB33
        clear hB33
        refine hK _ _ ?_; clear hK K
        refine wpList_nil ?_
        refine hK8 _ _ ?_; clear hK8; try clear K8
        refine wp_ret ?_
        try dsimp only [Exit.then, Exit.inBlock]
        refine (retC (fn := Try.f8) ha32 m33 (i := 3) rfl rfl rfl Try.underlying24 rfl sz24b ?_)
        rw [bent_2 hb9 hb18 hb28]
        exact ⟨_, _, rfl, m33.outD (i := 1) rfl, m33.below⟩
      · skip
        clear ha27
        try simp only [decide_eq_true_eq, decide_eq_false_iff_not, Bool.not_eq_true, Bool.not_eq_false, Bool.not_eq_eq_eq_not, Bool.not_true, Bool.not_false, Bool.not_not, Int.not_lt, Int.not_le, ne_eq, Decidable.not_not] at hb28
        refine wp_cond_false (ha28.ev (x := .tmp 24) rfl) ?_
        refine wp_region_lit ?_
        refine st_y ha28 rfl (y_move ha28 rfl) ?_
        clear ha28 a27; intro a34 ha34
        refine st_y ha34 rfl (y_conv ha34 rfl Try.underlying3 Try.underlying5 (r := IntKind.u8.wrap v) rfl) ?_
        clear ha34 a34; intro a35 ha35
        refine st_y ha35 rfl (y_move ha35 rfl) ?_
        clear ha35 a35; intro a36 ha36
        refine st_y ha36 rfl (y_shr ha36 rfl rfl (by decide) (r := v.fdiv 256) (congrArg (fun z => v.fdiv z) (by decide : (2 : Int) ^ min (8 : Int).toNat IntKind.i64.bits = 256))) ?_
        clear ha36 a36; intro a37 ha37
        refine st_y ha37 rfl (y_conv ha37 rfl Try.underlying3 Try.underlying5 (r := IntKind.u8.wrap (v.fdiv 256)) rfl) ?_
        clear ha37 a37; intro a38 ha38
        refine wpList_plain rfl (fun K hK => ?_)
        refine e_litN ha38 m4 4 (k := .u8) rfl rfl Try.underlying22 inf5b rfl rfl rfl rfl ?_
        clear ha38 a38 m4; intro g39 a40 w40 ha40 m40 
        refine hK _ _ ?_; clear hK K
        refine st_y ha40 rfl (y_fieldAddr ha40 (off := 3) rfl Try.underlying24 rfl (s := 0) (by kernel_rfl) rfl) ?_
        clear ha40 a40; intro a41 ha41
        refine wpList_plain rfl (fun K hK => ?_)
        refine e_store1 ha41 m40 2 rfl rfl rfl rfl rfl sz22b (by dsimp only [List.set] <;> rfl) ?_
        clear m40; intro w42 m42 hB42
        clear hB42
        refine hK _ _ ?_; clear hK K
        refine wpList_nil ?_
        refine hK1 _ _ ?_; clear hK1; try clear K1
        refine wp_seq_k (fun K9 hK9 => ?_)
        have ha43 : Has 29 [(3, _), (6, _), (24, _)] a41 := ha41.only [3, 6, 24]; clear ha41
        refine wp_region_lit ?_
        refine st_y ha43 rfl (y_loadBR ha43 m42 (i := 2) rfl rfl Try.underlying24 rfl sz24b (by simp) (by dsimp only [List.drop, List.take] <;> rfl)) ?_
        clear ha43 a41; intro a44 ha44
        refine wpList_plain rfl (fun K hK => ?_)
        refine e_storeW ha44 m42 3 rfl rfl rfl rfl rfl sz24b ?_
        clear m42; intro w45 m45 hB45
        clear hB45
        refine hK _ _ ?_; clear hK K
        refine wpList_nil ?_
        refine hK9 _ _ ?_; clear hK9; try clear K9
        refine wp_ret ?_
        try dsimp only [Exit.then, Exit.inBlock]
        refine (retC (fn := Try.f8) ha44 m45 (i := 3) rfl rfl rfl Try.underlying24 rfl sz24b ?_)
        have m46 := m45.freezeN 4 rfl; clear m45
        rw [bent_3 hb9 hb18 hb28]
        exact ⟨_, _, rfl, m46.outD (i := 4) rfl, m46.below⟩
end Go.Proofs.Ytkfcpnmdmoeioaa.K
