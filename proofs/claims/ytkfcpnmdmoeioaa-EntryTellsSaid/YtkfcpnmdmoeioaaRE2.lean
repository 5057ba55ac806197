/- mementoref6.PutEntry. -/
import Derived.Test.YtkfcpnmdmoeioaaRE1
namespace Go.Proofs.Ytkfcpnmdmoeioaa.K
open Go.ChangeShapes Go.WideShapes Go.ChangeAt Go.RowKit
set_option linter.unusedVariables false

set_option maxRecDepth 100000 in
set_option maxHeartbeats 2000000 in
theorem rentPut_any (i t k : Int) (v : Value) (d : List Int) (w : World) (hv : IsNums .u8 w v d) :
    Calls Try.prog 10 #[entV i t k v] w fun e w' => ∃ u, e = .returned u ∧ w'.ownsRow w.heap.size 5 1 u (entP i t k d).length ((entP i t k d).map (Value.int .u8)) ∧ Below w.heap.size w w' := by
  obtain ⟨a, c, rfl, -⟩ := id hv
  obtain ⟨n, hnl⟩ : ∃ n, d.length = n := ⟨_, rfl⟩
  rw [hnl] at hv ⊢
  have hb := (Below.refl w.heap.size w).alloc (Nat.le_refl _) (.cells #[.int .i64 i, .int .i64 t, .int .i64 k, .slice a n c] 24)
  have hx := Blk.alloc w 24 #[.int .i64 i, .int .i64 t, .int .i64 k, .slice a n c]
  have hn := hv.alloc (.cells #[.int .i64 i, .int .i64 t, .int .i64 k, .slice a n c] 24)
  obtain ⟨w0, hw0⟩ : ∃ x, w.alloc (.cells #[.int .i64 i, .int .i64 t, .int .i64 k, .slice a n c] 24) = x := ⟨_, rfl⟩
  obtain ⟨Nb, hNb⟩ : ∃ x, w.heap.size = x := ⟨_, rfl⟩
  rw [hw0] at hb hx hn
  rw [hNb] at hx
  have x0 := hx.cell 0
  have x1 := hx.cell 1
  have x2 := hx.cell 2
  have x3 := hx.cell 3
  have HX := Lib.hid hx
  have B0 := Lib.hid hb
  have HN0 := Lib.hid hn
  have HN := Lib.hid hv
  have HL := Lib.hid hnl
  unfold entV
  cases hr : entOk i t k d with
  | false =>
    have hz : entP i t k d = [] := by unfold entP; rw [hr]; rfl
    rw [hz]
    have HR := Lib.hid hr
    clear hb hx hn hv hr hz hnl
    go_enter Try.func10, Try.ntmps10
    go_wp2_with fail
    refine (rentRight_any i t k _ d w0 HN0.out).mono ?_
    rintro e w1 ⟨rfl, hb1⟩
    rw [HR.out]
    have B1 := Lib.hid (B0.out.trans (hb1.mono B0.out.size))
    clear hb1
    go_wp2
    go_ret
    exact ⟨_, rfl, World.ownsRow_nil _ _ _ _, B1.out⟩
  | true =>
    have hz : entP i t k d = entB i t k d := by unfold entP; rw [hr]; rfl
    have BD := Lib.hid (entOk_bd hr)
    have HR := Lib.hid hr
    have HZ := Lib.hid hz
    obtain ⟨LA, hLA⟩ : ∃ L, encs [i, t, k] = L := ⟨_, rfl⟩
    obtain ⟨LB, hLB⟩ : ∃ L, enc d.length ++ d = L := ⟨_, rfl⟩
    have HLA := Lib.hid hLA
    have HLB := Lib.hid hLB
    clear hLA hLB
    have hwi : IntKind.u64.wrap i = i := by have := BD.out; rw [IntKind.wrap_u64]; omega
    have hwt : IntKind.u64.wrap t = t := by have := BD.out; rw [IntKind.wrap_u64]; omega
    have hwk : IntKind.u64.wrap k = k := by have := BD.out; rw [IntKind.wrap_u64]; omega
    have LL : Hid (LA.length + LB.length ≤ 100000) := Lib.hid (by
      rw [← HLA.out, ← HLB.out]
      have := BD.out
      have h1 := encs_len [i, t, k]
      have h2 := enc_len d.length
      simp only [List.length_append, List.length_cons, List.length_nil] at *
      omega)
    clear hb hx hn hv hr hz hnl x0 x1 x2 x3
    go_enter Try.func10, Try.ntmps10
    have x0 := HX.out.cell 0
    have x1 := HX.out.cell 1
    have x2 := HX.out.cell 2
    have x3 := HX.out.cell 3
    go_wp2_with fail
    refine (rentRight_any i t k _ d w0 HN0.out).mono ?_
    rintro e w1 ⟨rfl, hb1⟩
    rw [HR.out]
    have X1 : Hid (Blk w1.drew Nb 24 [.int .i64 i, .int .i64 t, .int .i64 k, .slice a n c]) := Lib.hid ((HX.out.below hb1 HX.out.lt).below (Below.refl w1.heap.size w1).drew ((HX.out.below hb1 HX.out.lt).lt))
    have B1 := Lib.hid (B0.out.trans (hb1.mono B0.out.size))
    have hB1 := B1.out.drew
    obtain ⟨wd, hwd⟩ : ∃ x, w1.drew = x := ⟨_, rfl⟩
    rw [hwd] at X1 hB1
    clear B1
    have B1 := Lib.hid hB1
    clear hb1 x0 x1 x2 x3 HX B0 HN0 hB1
    go_wp2_with fail
    refine regionE_begin 14 (fun W => Blk W Nb 24 [.int .i64 i, .int .i64 t, .int .i64 k, .slice a n c]) (by kernel_rfl) ?_
    rw [hwd]
    clear hwd
    refine stepE_any 0 (some 6) (v := ?va0) (fun _ => X1.out) rfl (by rfl) (by kernel_rfl) (by kernel_rfl) (by kernel_rfl) (by decide) (fun _ _ _ h => h) (by rfl) ?ya0 ?na0
    case ya0 => intro W; go_simp; try with_reducible rfl
    try simp only [Act.put, List.setIfInBounds_toArray, List.set_cons_zero, List.set_cons_succ]
    refine stepE_readW 1 (some 7) (v := ?va1) (X1.out) rfl (by rfl) (by kernel_rfl) (by kernel_rfl) (by kernel_rfl) (by kernel_rfl) (by kernel_rfl) (fun _ _ _ h => h) (by rfl) ?ya1 ?na1
    case ya1 => intro W hW; have q0 := hW.cell 0; go_simp; try with_reducible rfl
    try simp only [Act.put, List.setIfInBounds_toArray, List.set_cons_zero, List.set_cons_succ]
    refine stepE_any 2 (some 8) (v := ?va2) (fun _ => X1.out) rfl (by rfl) (by kernel_rfl) (by kernel_rfl) (by kernel_rfl) (by decide) (fun _ _ _ h => h) (by rfl) ?ya2 ?na2
    case ya2 => intro W; go_simp; try with_reducible rfl
    try simp only [Act.put, List.setIfInBounds_toArray, List.set_cons_zero, List.set_cons_succ]
    refine stepE_any 3 (some 9) (v := ?va3) (fun _ => X1.out) rfl (by rfl) (by kernel_rfl) (by kernel_rfl) (by kernel_rfl) (by decide) (fun _ _ _ h => h) (by rfl) ?ya3 ?na3
    case ya3 => intro W; go_simp; try with_reducible rfl
    try simp only [Act.put, List.setIfInBounds_toArray, List.set_cons_zero, List.set_cons_succ]
    refine stepE_readW 4 (some 10) (v := ?va4) (X1.out) rfl (by rfl) (by kernel_rfl) (by kernel_rfl) (by kernel_rfl) (by kernel_rfl) (by kernel_rfl) (fun _ _ _ h => h) (by rfl) ?ya4 ?na4
    case ya4 => intro W hW; have q1 := hW.cell 1; go_simp; try with_reducible rfl
    try simp only [Act.put, List.setIfInBounds_toArray, List.set_cons_zero, List.set_cons_succ]
    refine stepE_any 5 (some 11) (v := ?va5) (fun _ => X1.out) rfl (by rfl) (by kernel_rfl) (by kernel_rfl) (by kernel_rfl) (by decide) (fun _ _ _ h => h) (by rfl) ?ya5 ?na5
    case ya5 => intro W; go_simp; try with_reducible rfl
    try simp only [Act.put, List.setIfInBounds_toArray, List.set_cons_zero, List.set_cons_succ]
    refine stepE_any 6 (some 12) (v := ?va6) (fun _ => X1.out) rfl (by rfl) (by kernel_rfl) (by kernel_rfl) (by kernel_rfl) (by decide) (fun _ _ _ h => h) (by rfl) ?ya6 ?na6
    case ya6 => intro W; go_simp; try with_reducible rfl
    try simp only [Act.put, List.setIfInBounds_toArray, List.set_cons_zero, List.set_cons_succ]
    refine stepE_readW 7 (some 13) (v := ?va7) (X1.out) rfl (by rfl) (by kernel_rfl) (by kernel_rfl) (by kernel_rfl) (by kernel_rfl) (by kernel_rfl) (fun _ _ _ h => h) (by rfl) ?ya7 ?na7
    case ya7 => intro W hW; have q2 := hW.cell 2; go_simp; try with_reducible rfl
    try simp only [Act.put, List.setIfInBounds_toArray, List.set_cons_zero, List.set_cons_succ]
    refine stepE_any 8 (some 14) (v := ?va8) (fun _ => X1.out) rfl (by rfl) (by kernel_rfl) (by kernel_rfl) (by kernel_rfl) (by decide) (fun _ _ _ h => h) (by rfl) ?ya8 ?na8
    case ya8 => intro W; go_simp; try with_reducible rfl
    try simp only [Act.put, List.setIfInBounds_toArray, List.set_cons_zero, List.set_cons_succ]
    refine stepE_any 11 (some 17) (v := ?va11) (fun _ => X1.out) rfl (by rfl) (by kernel_rfl) (by kernel_rfl) (by kernel_rfl) (by decide) (fun _ _ _ h => h) (by rfl) ?ya11 ?na11
    case ya11 => intro W; go_simp; try with_reducible rfl
    try simp only [Act.put, List.setIfInBounds_toArray, List.set_cons_zero, List.set_cons_succ]
    refine stepE_readW 12 (some 18) (v := ?va12) (X1.out) rfl (by rfl) (by kernel_rfl) (by kernel_rfl) (by kernel_rfl) (by kernel_rfl) (by kernel_rfl) (fun _ _ _ h => h) (by rfl) ?ya12 ?na12
    case ya12 => intro W hW; have q3 := hW.cell 3; go_simp; try with_reducible rfl
    try simp only [Act.put, List.setIfInBounds_toArray, List.set_cons_zero, List.set_cons_succ]
    -- 9: buildSlice -> 15
    refine stepE_only 9 rfl (by kernel_rfl) (by rfl) (fun K' hK => ?_)
    go_simp
    have X6 := Lib.hid (X1.out.below ((Below.refl wd.heap.size wd).alloc (Nat.le_refl _) (.cells #[.int .u64 i, .int .u64 t, .int .u64 k] 62)) X1.out.lt)
    have B6 := Lib.hid (B1.out.alloc B1.out.size (.cells #[.int .u64 i, .int .u64 t, .int .u64 k] 62))
    have N6 : Hid (IsNums .u64 (wd.alloc (.cells #[.int .u64 i, .int .u64 t, .int .u64 k] 62)) (.slice (some ⟨wd.heap.size, 0, none⟩) 3 3) [i, t, k]) := Lib.hid (IsNums.lit .u64 wd [i, t, k] wd.heap.size 62 3 3 rfl rfl)
    obtain ⟨w6, hw6⟩ : ∃ x, wd.alloc (.cells #[.int .u64 i, .int .u64 t, .int .u64 k] 62) = x := ⟨_, rfl⟩
    obtain ⟨M6, hM6⟩ : ∃ x, wd.heap.size = x := ⟨_, rfl⟩
    rw [hw6] at X6 B6 N6 ⊢
    rw [hM6] at N6 ⊢
    refine hK _ _ X6.out ?_
    clear hw6 hM6
    clear hK K'
    try simp only [Act.put, List.setIfInBounds_toArray, List.set_cons_zero, List.set_cons_succ]
    -- 10: call:31 -> 16
    refine stepE_only 10 rfl (by kernel_rfl) (by rfl) (fun K' hK => ?_)
    go_simp
    refine (rput_any _ [i, t, k] w6 N6.out (by have := BD.out; intro j hj; match j, hj with | 0, _ => exact ⟨by show 0 ≤ i; omega, by show i ≤ _; omega⟩ | 1, _ => exact ⟨by show 0 ≤ t; omega, by show t ≤ _; omega⟩ | 2, _ => exact ⟨by show 0 ≤ k; omega, by show k ≤ _; omega⟩) (by simp)).mono ?_
    rintro e w7 ⟨u7, rfl, ho7, hb7⟩
    have X7 := Lib.hid (X6.out.below hb7 X6.out.lt)
    have B7 := Lib.hid (B6.out.trans (hb7.mono B6.out.size))
    rw [HLA.out] at ho7
    have O7 := Lib.hid (ownsRow_base ho7 B6.out.size)
    refine hK _ _ X7.out ?_
    clear ho7 hb7
    clear hK K'
    try simp only [Act.put, List.setIfInBounds_toArray, List.set_cons_zero, List.set_cons_succ]
    -- 13: call:32 -> 19
    refine stepE_only 13 rfl (by kernel_rfl) (by rfl) (fun K' hK => ?_)
    go_simp
    refine (rflump_any _ d w7 (HN.out.below B7.out (Nat.le_refl _)) (by have := BD.out; omega)).mono ?_
    rintro e w8 ⟨u8, rfl, ho8, hb8⟩
    have X8 := Lib.hid (X7.out.below hb8 X7.out.lt)
    have B8' := Lib.hid (B7.out.trans (hb8.mono B7.out.size))
    have N8 : Hid (IsNums .u8 w8 u8 LB) := Lib.hid (by rw [← HLB.out]; exact IsNums.ofOwn ho8)
    have O78 := Lib.hid (own_keep O7.out (Keep.ofBelow (bad := fun _ => False) hb8) (fun _ _ h => h))
    obtain ⟨p7, c7, hu7⟩ := ownsRow_shape O7.out
    obtain ⟨p8, c8, hu8, -⟩ := id N8.out
    subst hu7 hu8
    refine hK _ _ X8.out ?_
    clear ho8 hb8
    clear hK K'
    try simp only [Act.put, List.setIfInBounds_toArray, List.set_cons_zero, List.set_cons_succ]
    -- 14: builtin:append -> 20
    refine stepE_end 14 rfl (by kernel_rfl) (by rfl) (by rfl) (fun K' hK => ?_)
    refine wp_appN (.tmp 16) (.tmp 19) 22 rfl w.heap.size 5 .u8 1 Try.underlying22 info_u8 (by omega) (.slice p7 LA.length c7) LA.length (LA.map (Value.int .u8)) O78.out (.slice p8 LB.length c8) LB N8.out (by have := LL.out; omega) B8'.out.size (by rfl) (by rfl) (fun v9 w9 hown9 hb9 => ?_)
    have O9 := Lib.hid hown9
    have B9 := Lib.hid (B8'.out.trans hb9)
    obtain ⟨p9, c9, hv9⟩ := ownsRow_shape hown9
    subst hv9
    refine hK _ _ ?_
    try simp only [List.getElem_toArray, List.getElem_cons_succ, List.getElem_cons_zero]
    clear hown9 hb9
    clear hK K'
    try simp only [Act.put, List.setIfInBounds_toArray, List.set_cons_zero, List.set_cons_succ]
    refine stepE_any 15 (some 2) (v := ?va15) (fun h => (Bool.false_ne_true (h.symm.trans (by rfl))).elim) rfl (by rfl) (by kernel_rfl) (by kernel_rfl) (by kernel_rfl) (by decide) (fun _ _ _ h => h) (by rfl) ?ya15 ?na15
    case ya15 => intro W; go_simp; try with_reducible rfl
    try simp only [Act.put, List.setIfInBounds_toArray, List.set_cons_zero, List.set_cons_succ]
    refine wpAnyE_done (by kernel_rfl) ?_ _
    go_wp2
    go_ret
    refine ⟨_, rfl, ?_, B9.out⟩
    rw [HZ.out, show entB i t k d = LA ++ LB by rw [← HLA.out, ← HLB.out]; rfl, List.length_append, List.map_append]
    exact O9.out
end Go.Proofs.Ytkfcpnmdmoeioaa.K
