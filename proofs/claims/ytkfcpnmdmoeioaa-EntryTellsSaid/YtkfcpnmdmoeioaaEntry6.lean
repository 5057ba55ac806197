/- entry.PutBase. -/
import Derived.Test.YtkfcpnmdmoeioaaEntry5
namespace Go.Proofs.Ytkfcpnmdmoeioaa.K
open Go.ChangeShapes Go.WideShapes Go.ChangeAt Go.RowKit
set_option linter.unusedVariables false


/-- A base as bytes. -/
def baseB (i t : Int) (cf d : List Int) : List Int := encs [i, t, (cf.length : Int)] ++ (encs cf ++ (enc d.length ++ d))
def baseP (i t : Int) (cf d : List Int) : List Int := if baseOk i t cf d then baseB i t cf d else []
theorem sumLen_three (a b c : List Int) : sumLen [a, b, c] = a.length + b.length + c.length := by simp [sumLen]; omega
theorem lists3 {w : World} {p q r : Option Addr} {n m l c d e : Nat} {S1 S2 S3 : List Int} {T : TypeId} (h1 : IsNums .u8 w (.slice p n c) S1) (h2 : IsNums .u8 w (.slice q m d) S2) (h3 : IsNums .u8 w (.slice r l e) S3) :
    IsLists (w.alloc (.cells #[.slice p n c, .slice q m d, .slice r l e] T)) (.slice (some ⟨w.heap.size, 0, none⟩) 3 3) [S1, S2, S3] :=
  IsLists.lit w [.slice p n c, .slice q m d, .slice r l e] [S1, S2, S3] w.heap.size T 3 3 rfl rfl rfl (fun j hj => by
    match j, hj with
    | 0, _ => exact h1
    | 1, _ => exact h2
    | 2, _ => exact h3)
theorem right_bd {cf : List Int} (h : rightB cf = true) : cf.length ≤ 7 ∧ ∀ j, j < cf.length → 0 ≤ cf.getD j 0 ∧ cf.getD j 0 ≤ 6 := by
  unfold rightB at h
  obtain ⟨h0, h1⟩ := of_decide_eq_true h
  have hb : ∀ j, j < cf.length → 0 ≤ cf.getD j 0 ∧ cf.getD j 0 ≤ 6 := fun j hj => by
    have := (h1 j hj).1
    unfold okB at this
    have := of_decide_eq_true this
    omega
  have hs : ∀ j, j < cf.length → (j : Int) ≤ cf.getD j 0 := by
    intro j
    induction j with
    | zero => intro hj; exact (hb 0 hj).1
    | succ j ih =>
      intro hj
      have h2 := ih (by omega)
      have h3 := (h1 (j + 1) hj).2 (by omega)
      simp only [Nat.add_sub_cancel] at h3
      omega
  refine ⟨?_, hb⟩
  have := hs (cf.length - 1) (by omega)
  have := hb (cf.length - 1) (by omega)
  omega
theorem baseOk_bd {i t : Int} {cf d : List Int} (h : baseOk i t cf d = true) : (0 ≤ i ∧ i ≤ 1099511627776) ∧ (0 ≤ t ∧ t ≤ 1099511627776) ∧ rightB cf = true ∧ d.length ≤ 32767 := by
  unfold baseOk timeOk at h
  simp only [Bool.and_eq_true, decide_eq_true_eq] at h
  exact ⟨h.1.1.1, h.1.1.2, h.1.2, h.2⟩

set_option maxRecDepth 100000 in
set_option maxHeartbeats 2000000 in
theorem basePut_any (i t : Int) (vc v : Value) (cf d : List Int) (w : World) (hc : IsNums .i64 w vc cf) (hv : IsNums .u8 w v d) (hl : cf.length ≤ 900) :
    Calls Try.prog 19 #[baseV i t vc v] w fun e w' => ∃ u, e = .returned u ∧ w'.ownsRow w.heap.size 5 1 u (baseP i t cf d).length ((baseP i t cf d).map (Value.int .u8)) ∧ Below w.heap.size w w' := by
  obtain ⟨a, c, rfl, -⟩ := id hv
  obtain ⟨ac, cc, rfl, -⟩ := id hc
  obtain ⟨n, hnl⟩ : ∃ n, d.length = n := ⟨_, rfl⟩
  obtain ⟨m, hml⟩ : ∃ n, cf.length = n := ⟨_, rfl⟩
  rw [hnl] at hv ⊢
  rw [hml] at hc ⊢
  have hb := (Below.refl w.heap.size w).alloc (Nat.le_refl _) (.cells #[.int .i64 i, .int .i64 t, .slice ac m cc, .slice a n c] 27)
  have hx := Blk.alloc w 27 #[.int .i64 i, .int .i64 t, .slice ac m cc, .slice a n c]
  have hn := hv.alloc (.cells #[.int .i64 i, .int .i64 t, .slice ac m cc, .slice a n c] 27)
  have hcn := hc.alloc (.cells #[.int .i64 i, .int .i64 t, .slice ac m cc, .slice a n c] 27)
  obtain ⟨w0, hw0⟩ : ∃ x, w.alloc (.cells #[.int .i64 i, .int .i64 t, .slice ac m cc, .slice a n c] 27) = x := ⟨_, rfl⟩
  obtain ⟨Nb, hNb⟩ : ∃ x, w.heap.size = x := ⟨_, rfl⟩
  rw [hw0] at hb hx hn hcn
  rw [hNb] at hx
  have HX := Lib.hid hx
  have B0 := Lib.hid hb
  have HN0 := Lib.hid hn
  have HC0 := Lib.hid hcn
  have HN := Lib.hid hv
  have HC := Lib.hid hc
  have HL := Lib.hid hnl
  have HM := Lib.hid hml
  have HCL := Lib.hid (show cf.length ≤ 900 by omega)
  unfold baseV
  cases hr : baseOk i t cf d with
  | false =>
    have hz : baseP i t cf d = [] := by unfold baseP; rw [hr]; rfl
    rw [hz]
    have HR := Lib.hid hr
    clear hb hx hn hv hr hz hnl hml hcn hc
    have x0 := HX.out.cell 0
    have x1 := HX.out.cell 1
    have x2 := HX.out.cell 2
    have x3 := HX.out.cell 3
    go_enter Try.func19, Try.ntmps19
    go_wp2_with fail
    refine (baseRight_any i t _ _ cf d w0 HC0.out HN0.out HCL.out).mono ?_
    rintro e w1 ⟨rfl, hb1⟩
    rw [HR.out]
    have B1 := Lib.hid (B0.out.trans (hb1.mono B0.out.size))
    clear hb1
    go_wp2
    go_ret
    exact ⟨_, rfl, World.ownsRow_nil _ _ _ _, B1.out⟩
  | true =>
    have hz : baseP i t cf d = baseB i t cf d := by unfold baseP; rw [hr]; rfl
    have hbd := baseOk_bd hr
    have hrb := right_bd hbd.2.2.1
    have BD := Lib.hid hbd
    have MB : Hid (m ≤ 7) := Lib.hid (by omega)
    have CFB : Hid (∀ j, j < cf.length → 0 ≤ cf.getD j 0 ∧ cf.getD j 0 ≤ 9223372036854775807) := Lib.hid (fun j hj => by have := hrb.2 j hj; omega)
    have HR := Lib.hid hr
    have HZ := Lib.hid hz
    obtain ⟨LA, hLA⟩ : ∃ L, encs [i, t, (m : Int)] = L := ⟨_, rfl⟩
    obtain ⟨LB, hLB⟩ : ∃ L, encs cf = L := ⟨_, rfl⟩
    obtain ⟨LC, hLC⟩ : ∃ L, enc d.length ++ d = L := ⟨_, rfl⟩
    have HLA := Lib.hid hLA
    have HLB := Lib.hid hLB
    have HLC := Lib.hid hLC
    clear hLA hLB hLC hb hx hn hv hr hz hnl hml hcn hc hbd hrb
    go_enter Try.func19, Try.ntmps19
    have x0 := HX.out.cell 0
    have x1 := HX.out.cell 1
    have x2 := HX.out.cell 2
    have x3 := HX.out.cell 3
    go_wp2_with fail
    refine (baseRight_any i t _ _ cf d w0 HC0.out HN0.out HCL.out).mono ?_
    rintro e w1 ⟨rfl, hb1⟩
    rw [HR.out]
    have X1 : Hid (Blk w1.drew Nb 27 [.int .i64 i, .int .i64 t, .slice ac m cc, .slice a n c]) := Lib.hid ((HX.out.below hb1 HX.out.lt).below (Below.refl w1.heap.size w1).drew ((HX.out.below hb1 HX.out.lt).lt))
    have hB1 := (B0.out.trans (hb1.mono B0.out.size)).drew
    obtain ⟨wd, hwd⟩ : ∃ x, w1.drew = x := ⟨_, rfl⟩
    rw [hwd] at X1 hB1
    have B1 := Lib.hid hB1
    clear hb1 x0 x1 x2 x3 HX B0 HN0 HC0 hB1
    go_wp2_with fail
    refine regionE_begin 16 (fun W => Blk W Nb 27 [.int .i64 i, .int .i64 t, .slice ac m cc, .slice a n c]) (by kernel_rfl) ?_
    rw [hwd]
    clear hwd
    refine stepE_any 0 (some 6) (v := ?va0) (fun _ => X1.out) rfl (by rfl) (by kernel_rfl) (by kernel_rfl) (by kernel_rfl) (by decide) (fun _ _ _ h => h) (by rfl) ?ya0 ?na0
    case ya0 => intro W; go_simp; try with_reducible rfl
    try simp only [Act.put, List.setIfInBounds_toArray, List.set_cons_zero, List.set_cons_succ]
    refine stepE_readW 1 (some 7) (v := ?va1) (X1.out) rfl (by rfl) (by kernel_rfl) (by kernel_rfl) (by kernel_rfl) (by kernel_rfl) (by kernel_rfl) (fun _ _ _ h => h) (by rfl) ?ya1 ?na1
    case ya1 => intro W hW; have q0 := hW.cell 0; go_simp; try with_reducible rfl
    try simp only [Act.put, List.setIfInBounds_toArray, List.set_cons_zero, List.set_cons_succ]
    refine stepE_any 2 (some 8) (v := ?va2) (fun _ => X1.out) rfl (by rfl) (by kernel_rfl) (by kernel_rfl) (by kernel_rfl) (by decide) (fun _ _ _ h => h) (by rfl) ?ya2 ?na2
    case ya2 => intro W; go_simp; try with_reducible rfl
    try simp only [Act.put, List.setIfInBounds_toArray, List.set_cons_zero, List.set_cons_succ]
    refine stepE_readW 3 (some 9) (v := ?va3) (X1.out) rfl (by rfl) (by kernel_rfl) (by kernel_rfl) (by kernel_rfl) (by kernel_rfl) (by kernel_rfl) (fun _ _ _ h => h) (by rfl) ?ya3 ?na3
    case ya3 => intro W hW; have q1 := hW.cell 1; go_simp; try with_reducible rfl
    try simp only [Act.put, List.setIfInBounds_toArray, List.set_cons_zero, List.set_cons_succ]
    refine stepE_any 4 (some 10) (v := ?va4) (fun _ => X1.out) rfl (by rfl) (by kernel_rfl) (by kernel_rfl) (by kernel_rfl) (by decide) (fun _ _ _ h => h) (by rfl) ?ya4 ?na4
    case ya4 => intro W; go_simp; try with_reducible rfl
    try simp only [Act.put, List.setIfInBounds_toArray, List.set_cons_zero, List.set_cons_succ]
    refine stepE_readW 5 (some 11) (v := ?va5) (X1.out) rfl (by rfl) (by kernel_rfl) (by kernel_rfl) (by kernel_rfl) (by kernel_rfl) (by kernel_rfl) (fun _ _ _ h => h) (by rfl) ?ya5 ?na5
    case ya5 => intro W hW; have q2 := hW.cell 2; go_simp; try with_reducible rfl
    try simp only [Act.put, List.setIfInBounds_toArray, List.set_cons_zero, List.set_cons_succ]
    refine stepE_any 6 (some 12) (v := ?va6) (fun _ => X1.out) rfl (by rfl) (by kernel_rfl) (by kernel_rfl) (by kernel_rfl) (by decide) (fun _ _ _ h => h) (by rfl) ?ya6 ?na6
    case ya6 => intro W; go_simp; try with_reducible rfl
    try simp only [Act.put, List.setIfInBounds_toArray, List.set_cons_zero, List.set_cons_succ]
    refine stepE_any 9 (some 15) (v := ?va9) (fun _ => X1.out) rfl (by rfl) (by kernel_rfl) (by kernel_rfl) (by kernel_rfl) (by decide) (fun _ _ _ h => h) (by rfl) ?ya9 ?na9
    case ya9 => intro W; go_simp; try with_reducible rfl
    try simp only [Act.put, List.setIfInBounds_toArray, List.set_cons_zero, List.set_cons_succ]
    refine stepE_readW 10 (some 16) (v := ?va10) (X1.out) rfl (by rfl) (by kernel_rfl) (by kernel_rfl) (by kernel_rfl) (by kernel_rfl) (by kernel_rfl) (fun _ _ _ h => h) (by rfl) ?ya10 ?na10
    case ya10 => intro W hW; have q2 := hW.cell 2; go_simp; try with_reducible rfl
    try simp only [Act.put, List.setIfInBounds_toArray, List.set_cons_zero, List.set_cons_succ]
    refine stepE_any 12 (some 18) (v := ?va12) (fun _ => X1.out) rfl (by rfl) (by kernel_rfl) (by kernel_rfl) (by kernel_rfl) (by decide) (fun _ _ _ h => h) (by rfl) ?ya12 ?na12
    case ya12 => intro W; go_simp; try with_reducible rfl
    try simp only [Act.put, List.setIfInBounds_toArray, List.set_cons_zero, List.set_cons_succ]
    refine stepE_readW 13 (some 19) (v := ?va13) (X1.out) rfl (by rfl) (by kernel_rfl) (by kernel_rfl) (by kernel_rfl) (by kernel_rfl) (by kernel_rfl) (fun _ _ _ h => h) (by rfl) ?ya13 ?na13
    case ya13 => intro W hW; have q3 := hW.cell 3; go_simp; try with_reducible rfl
    try simp only [Act.put, List.setIfInBounds_toArray, List.set_cons_zero, List.set_cons_succ]
    -- 7: buildSlice -> 13
    refine stepE_only 7 rfl (by kernel_rfl) (by rfl) (fun K' hK => ?_)
    go_simp
    have X6 := Lib.hid (X1.out.below ((Below.refl wd.heap.size wd).alloc (Nat.le_refl _) (.cells #[.int .i64 i, .int .i64 t, .int .i64 m] 3)) X1.out.lt)
    have B6 := Lib.hid (B1.out.alloc B1.out.size (.cells #[.int .i64 i, .int .i64 t, .int .i64 m] 3))
    have N6 : Hid (IsNums .i64 (wd.alloc (.cells #[.int .i64 i, .int .i64 t, .int .i64 m] 3)) (.slice (some ⟨wd.heap.size, 0, none⟩) 3 3) [i, t, (m : Int)]) := Lib.hid (IsNums.lit .i64 wd [i, t, (m : Int)] wd.heap.size 3 3 3 rfl rfl)
    obtain ⟨w6, hw6⟩ : ∃ x, wd.alloc (.cells #[.int .i64 i, .int .i64 t, .int .i64 m] 3) = x := ⟨_, rfl⟩
    obtain ⟨M6, hM6⟩ : ∃ x, wd.heap.size = x := ⟨_, rfl⟩
    rw [hw6] at X6 B6 N6 ⊢
    rw [hM6] at N6 ⊢
    refine hK _ _ X6.out ?_
    clear hw6 hM6
    clear hK K'
    try simp only [Act.put, List.setIfInBounds_toArray, List.set_cons_zero, List.set_cons_succ]
    -- 8: call:29 -> 14
    refine stepE_only 8 rfl (by kernel_rfl) (by rfl) (fun K' hK => ?_)
    go_simp
    refine (nums_any _ [i, t, (m : Int)] w6 N6.out (by have := BD.out; have := MB.out; intro j hj; match j, hj with | 0, _ => exact ⟨by show 0 ≤ i; omega, by show i ≤ _; omega⟩ | 1, _ => exact ⟨by show 0 ≤ t; omega, by show t ≤ _; omega⟩ | 2, _ => exact ⟨by show 0 ≤ (m : Int); omega, by show (m : Int) ≤ _; omega⟩) (by simp)).mono ?_
    rintro e w7 ⟨u7, rfl, ho7, hb7⟩
    have X7 := Lib.hid (X6.out.below hb7 X6.out.lt)
    have B7 := Lib.hid (B6.out.trans (hb7.mono B6.out.size))
    have N7 : Hid (IsNums .u8 w7 u7 LA) := Lib.hid (by rw [← HLA.out]; exact IsNums.ofOwn ho7)
    refine hK _ _ X7.out ?_
    clear ho7 hb7
    clear hK K'
    try simp only [Act.put, List.setIfInBounds_toArray, List.set_cons_zero, List.set_cons_succ]
    -- 11: call:29 -> 17
    refine stepE_only 11 rfl (by kernel_rfl) (by rfl) (fun K' hK => ?_)
    go_simp
    refine (nums_any _ cf w7 (HC.out.below B7.out (Nat.le_refl _)) CFB.out (by have := MB.out; have := HM.out; omega)).mono ?_
    rintro e w8 ⟨u8, rfl, ho8, hb8⟩
    have X8 := Lib.hid (X7.out.below hb8 X7.out.lt)
    have B8' := Lib.hid (B7.out.trans (hb8.mono B7.out.size))
    have N8 : Hid (IsNums .u8 w8 u8 LB) := Lib.hid (by rw [← HLB.out]; exact IsNums.ofOwn ho8)
    have N78 := Lib.hid (N7.out.below hb8 (Nat.le_refl _))
    refine hK _ _ X8.out ?_
    clear ho8 hb8
    clear hK K'
    try simp only [Act.put, List.setIfInBounds_toArray, List.set_cons_zero, List.set_cons_succ]
    -- 14: call:30 -> 20
    refine stepE_only 14 rfl (by kernel_rfl) (by rfl) (fun K' hK => ?_)
    go_simp
    refine (lump_any _ d w8 (HN.out.below B8'.out (Nat.le_refl _)) (by have := BD.out; omega)).mono ?_
    rintro e w9 ⟨u9, rfl, ho9, hb9⟩
    have X9 := Lib.hid (X8.out.below hb9 X8.out.lt)
    have B9 := Lib.hid (B8'.out.trans (hb9.mono B8'.out.size))
    have N9 : Hid (IsNums .u8 w9 u9 LC) := Lib.hid (by rw [← HLC.out]; exact IsNums.ofOwn ho9)
    have N79 := Lib.hid (N78.out.below hb9 (Nat.le_refl _))
    have N89 := Lib.hid (N8.out.below hb9 (Nat.le_refl _))
    obtain ⟨p7, c7, hu7, -⟩ := id N7.out
    obtain ⟨p8, c8, hu8, -⟩ := id N8.out
    obtain ⟨p9, c9, hu9, -⟩ := id N9.out
    subst hu7 hu8 hu9
    refine hK _ _ X9.out ?_
    clear ho9 hb9
    clear hK K'
    try simp only [Act.put, List.setIfInBounds_toArray, List.set_cons_zero, List.set_cons_succ]
    -- 15: buildSlice -> 21
    refine stepE_only 15 rfl (by kernel_rfl) (by rfl) (fun K' hK => ?_)
    go_simp
    have X10 := Lib.hid (X9.out.below ((Below.refl w9.heap.size w9).alloc (Nat.le_refl _) (.cells #[.slice p7 LA.length c7, .slice p8 LB.length c8, .slice p9 LC.length c9] 22)) X9.out.lt)
    have B10 := Lib.hid (B9.out.alloc B9.out.size (.cells #[.slice p7 LA.length c7, .slice p8 LB.length c8, .slice p9 LC.length c9] 22))
    have L10 : Hid (IsLists (w9.alloc (.cells #[.slice p7 LA.length c7, .slice p8 LB.length c8, .slice p9 LC.length c9] 22)) (.slice (some ⟨w9.heap.size, 0, none⟩) 3 3) [LA, LB, LC]) := Lib.hid (lists3 N79.out N89.out N9.out)
    refine hK _ _ (by first | exact X10.out | simpa using X10.out) ?_
    clear hK K'
    try simp only [Act.put, List.setIfInBounds_toArray, List.set_cons_zero, List.set_cons_succ]
    -- 16: call:28 -> 22
    refine stepE_end 16 rfl (by kernel_rfl) (by rfl) (by rfl) (fun K' hK => ?_)
    go_simp
    refine (join_any _ _ _ (by first | exact L10.out | simpa using L10.out) (by simp) (by rw [sumLen_three, ← HLA.out, ← HLB.out, ← HLC.out]; have := BD.out; have h0 := MB.out; have h4 := HM.out; have h1 := encs_len [i, t, (m : Int)]; have h2 := enc_len d.length; have h3 := encs_len cf; simp only [List.length_append, List.length_cons, List.length_nil] at *; omega)).mono ?_
    rintro e w11 ⟨u11, rfl, ho11, hb11⟩
    have O11 := Lib.hid ho11
    have B11 := Lib.hid (B10.out.trans (hb11.mono B10.out.size))
    have Z11 := Lib.hid B10.out.size
    refine hK _ _ ?_
    clear ho11 hb11
    clear hK K'
    try simp only [Act.put, List.setIfInBounds_toArray, List.set_cons_zero, List.set_cons_succ]
    refine stepE_any 17 (some 2) (v := ?va17) (fun h => (Bool.false_ne_true (h.symm.trans (by rfl))).elim) rfl (by rfl) (by kernel_rfl) (by kernel_rfl) (by kernel_rfl) (by decide) (fun _ _ _ h => h) (by rfl) ?ya17 ?na17
    case ya17 => intro W; go_simp; try with_reducible rfl
    try simp only [Act.put, List.setIfInBounds_toArray, List.set_cons_zero, List.set_cons_succ]
    refine wpAnyE_done (by kernel_rfl) ?_ _
    go_wp2
    go_ret
    refine ⟨_, rfl, ?_, B11.out⟩
    rw [HZ.out]
    have h9 := ownsRow_base O11.out Z11.out
    rw [show ([LA, LB, LC] : List (List Int)).flatten = baseB i t cf d by rw [← HLA.out, ← HLB.out, ← HLC.out, ← HM.out]; simp [baseB]] at h9
    exact h9
end Go.Proofs.Ytkfcpnmdmoeioaa.K
