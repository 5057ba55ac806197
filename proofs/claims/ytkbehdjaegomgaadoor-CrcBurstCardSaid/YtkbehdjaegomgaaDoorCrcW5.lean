/- The walk of CrcBurst: it returns true, and writes nothing that was there. -/
import Derived.Test.YtkbehdjaegomgaaDoorCrcB1
import Derived.Test.YtkbehdjaegomgaaDoorRegionT
namespace Go.Proofs.YtkbehdjaegomgaaDoor.K
open Go.ChangeShapes Go.WideShapes Go.ChangeAt Go.RowKit
set_option linter.unusedVariables false

theorem mod_bit (x k : Nat) (h : x / 2 ^ k % 2 = 1) : x % 2 ^ (k + 1) = (x % 2 ^ k) ^^^ 2 ^ k := by
  have hb : x.testBit k = true := by rw [Nat.testBit_eq_decide_div_mod_eq, h]; rfl
  apply Nat.eq_of_testBit_eq
  intro i
  rw [Nat.testBit_xor, Nat.testBit_mod_two_pow, Nat.testBit_mod_two_pow, Nat.testBit_two_pow]
  by_cases h1 : i = k
  · subst h1; simp [hb]
  · by_cases h2 : i < k
    · simp [h2, show i < k + 1 by omega, show ¬ k = i by omega]
    · simp [h2, show ¬ i < k + 1 by omega, show ¬ k = i by omega]

set_option maxRecDepth 100000 in
set_option maxHeartbeats 4000000 in
theorem burst_walk (p : Option Addr) (n cc : Nat) (bs : List Int) (at_ x : Int) (w : World) (hT : TabOk w) (hw : 1 ≤ w.heap.size) (h0 : IsNums .u8 w (.slice p n cc) bs) (hl : bs.length = n) (hb : Bytes bs) (hm : n ≤ maxLen) (hat : 0 ≤ at_ ∧ at_ ≤ 65535) (hx : 0 ≤ x ∧ x < 4294967296) :
    Calls Tryd.prog 4 #[.slice p n cc, .int .u16 at_, .int .u32 x] w fun e w' => e = .returned (.bool true) ∧ Below w.heap.size w w' := by
  unfold maxLen at hm
  have HT := Lib.hid hT
  have H0 := Lib.hid h0
  have HB := Lib.hid hb
  clear hT h0 hb
  by_cases q : 200 < n ∨ n = 0 ∨ x = 0
  · go_enter Tryd.func4, Tryd.ntmps4
    go_wp2_with fail
    refine (known_true _ HT.out hw).mono ?_
    rintro en w1 ⟨rfl, hb1⟩
    by_cases q1 : 200 < n
    · go_wp2
      go_ret
      exact ⟨rfl, hb1⟩
    · by_cases q2 : n = 0
      · go_wp2
        go_ret
        exact ⟨rfl, hb1⟩
      · obtain rfl : x = 0 := by omega
        go_wp2
        go_ret
        exact ⟨rfl, hb1⟩
  have q1 : n ≤ 200 := by omega
  have q2 : 1 ≤ n := by omega
  have q3 : x ≠ 0 := by omega
  clear q
  have d1 : decide ((200 : Int) < (n : Int)) = false := by simp; omega
  have d2 : ((n : Int) == 0) = false := by simp; omega
  have d3 : (x == 0) = false := by simpa using q3
  go_enter Tryd.func4, Tryd.ntmps4
  go_wp2_with fail
  refine (known_true _ HT.out hw).mono ?_
  rintro en w1 ⟨rfl, hb1⟩
  go_wp2_with fail
  refine (seal_is _ bs w1 (HT.out.below hb1 hw) (by have := hb1.size; omega) (H0.out.below hb1 (Nat.le_refl _)) HB.out (by omega) (sealC bs) (n + 4) rfl (by rw [sealC_len, hl])).mono ?_
  rintro e w2 ⟨p2, c2, rfl, hc2, hN2, hb2⟩
  have hB2 : Below w.heap.size w w2 := hb1.trans (hb2.mono hb1.size)
  have HN := Lib.hid hN2
  clear hN2
  obtain ⟨N, hN⟩ : ∃ N, w.heap.size = N := ⟨_, rfl⟩
  have hs2 : N ≤ w2.heap.size := by have := hB2.size; omega
  have hLs : (sealC bs).length = n + 4 := by rw [sealC_len, hl]
  go_wp2_with (at_builtin; refine wpList_appN rfl _ _ 22 rfl N 5 .u8 1 Tryd.underlying22 info_u8 (by omega) _ 0 [] rfl (World.ownsRow_nil _ _ _ _) _ _ rfl HN.out (by rw [hLs]; omega) hs2 ?_; intro v8 w3 hown8 hb3)
  obtain ⟨F, hF⟩ : ∃ F : Nat, at_ % (8 * (n : Int)) = (F : Int) := ⟨(at_ % (8 * (n : Int))).toNat, by have := Int.emod_nonneg at_ (show 8 * (n : Int) ≠ 0 by omega); omega⟩
  have hF8 : F < 8 * n := by have := Int.emod_lt_of_pos at_ (show (0 : Int) < 8 * (n : Int) by omega); omega
  rw [hF]
  obtain ⟨g, cap, rfl, hcap⟩ : ∃ g cap, v8 = .slice (some ⟨g, 0, none⟩) (n + 4) cap ∧ n + 4 ≤ cap := by
    rcases hown8.2 with ⟨-, h0⟩ | ⟨g, cap, cur, rfl, _, _, hle, _, _, _⟩
    · omega
    · rw [hLs, Nat.zero_add] at hle ⊢; exact ⟨g, cap, rfl, hle⟩
  rw [hLs, Nat.zero_add, List.nil_append] at hown8
  have hB3 : Below N w w3 := by rw [← hN]; exact hB2.trans (by rw [hN]; exact hb3)
  obtain ⟨Fo, hFo⟩ : ∃ Fo, fourC (sumC [bs]) = Fo := ⟨_, rfl⟩
  go_loopw [10, 11] (fun t i wr => ∃ (k E : Nat) (ys : List Int), k ≤ 32 ∧ F + k ≤ 8 * n + 32 ∧ i = .int .i64 k ∧ E = x.toNat % 2 ^ k ∧ t = .bool (decide (E ≠ 0)) ∧ ys.length = n ∧ (∀ y ∈ ys, 0 ≤ y ∧ y ≤ 255) ∧ numB ys = numB bs ^^^ (E <<< F) ∧ wr.ownsRow N 5 1 (.slice (some ⟨g, 0, none⟩) (n + 4) cap) (n + 4) ((ys ++ Fo).map (Value.int .u8)) ∧ Below N w wr) (fun _ i _ => 32 - (intOf i).toNat)
  case atStart =>
    refine ⟨0, 0, bs, by omega, by omega, rfl, by simp [Nat.mod_one], rfl, hl, HB.out.mem, by simp, ?_, hB3⟩
    rw [← hFo]; exact hown8
  case round =>
    obtain ⟨k, E, ys, hk, hFk, rfl, hE, rfl, hyl, hyb, hny, hown, hbel⟩ := hrel
    by_cases hlt : k < 32 ∧ F + k < 8 * n
    · obtain ⟨l1, l2⟩ := hlt
      have hxk : x / 2 ^ k = ((x.toNat / 2 ^ k : Nat) : Int) := by
        obtain ⟨z, rfl⟩ := Int.eq_ofNat_of_zero_le hx.1
        push_cast; rfl
      have hand : bits .and .u32 (x / 2 ^ k) 1 = ((x.toNat / 2 ^ k % 2 : Nat) : Int) := by
        rw [hxk, show (1 : Int) = ((1 : Nat) : Int) by rfl, u32_and_nat _ _ (Nat.lt_of_le_of_lt (Nat.div_le_self _ _) (by omega)) (by decide), nat_mask1]
      have hmod : x.toNat % 2 ^ (k + 1) = x.toNat % 2 ^ k + 2 ^ k * (x.toNat / 2 ^ k % 2) := by rw [Nat.pow_succ, Nat.mod_mul]
      by_cases hbit : x.toNat / 2 ^ k % 2 = 1
      · have hcond : bits .and .u32 (x / 2 ^ k) 1 = 1 := by rw [hand, hbit]; rfl
        obtain ⟨Q, hQ⟩ : ∃ Q, (F + k) / 8 = Q := ⟨_, rfl⟩
        obtain ⟨R, hR⟩ : ∃ R, (F + k) % 8 = R := ⟨_, rfl⟩
        have eQ : ((F : Int) + (k : Int)) / 8 = (Q : Int) := by omega
        have eR : ((F : Int) + (k : Int)) % 8 = (R : Int) := by omega
        have hQn : Q < n := by omega
        have e65 : IntKind.i64.wrap ((F : Int) + (k : Int)) = (F : Int) + (k : Int) := by rw [IntKind.wrap_i64]; omega
        have e66 : IntKind.i64.wrap (((F : Int) + (k : Int)).tdiv 8) = (Q : Int) := by rw [Int.tdiv_eq_ediv_of_nonneg (by omega), eQ, IntKind.wrap_i64]; omega
        have e72 : ((F : Int) + (k : Int)).tmod 8 = (R : Int) := by rw [Int.tmod_eq_emod_of_nonneg (by omega), eR]
        have hR0 : (0 : Int) ≤ (R : Int) := by omega
        have hR1 : ¬ ((R : Int) < 0) := by omega
        have hR8 : R < 8 := by omega
        have hcell : wr.cell? ⟨g, Q, none⟩ = some (.int .u8 (ys.getD Q 0)) := by
          rw [hown.cellAt Q (by omega)]
          simp [List.getD, List.getElem?_append, hyl, hQn]
        have hyQ := hyb (ys.getD Q 0) (by simp [List.getD, hyl, hQn])
        have hset := numB_set ys (2 ^ R) Q (by omega) hyb
        obtain ⟨y, hy⟩ : ∃ y, ys.getD Q 0 = y := ⟨_, rfl⟩
        rw [hy] at hcell hyQ hset
        obtain ⟨M, hM⟩ : ∃ M, 2 ^ R = M := ⟨_, rfl⟩
        have hM256 : M < 256 := by
          have : 2 ^ R ≤ 2 ^ 7 := Nat.pow_le_pow_right (by decide) (by omega)
          omega
        have eM : IntKind.u8.wrap ((2 : Int) ^ R) = (M : Int) := by
          have e2 : (2 : Int) ^ R = (M : Int) := by rw [← hM]; push_cast; rfl
          rw [e2, IntKind.wrap_u8]; omega
        have hv : bits .xor .u8 y (M : Int) = ((y.toNat ^^^ M : Nat) : Int) := by
          obtain ⟨z, rfl⟩ := Int.eq_ofNat_of_zero_le hyQ.1
          rw [u8_xor_nat z _ (by omega) hM256]; rfl
        have hlt256 : y.toNat ^^^ M < 256 := Nat.xor_lt_two_pow (n := 8) (by omega) hM256
        rw [hM] at hset
        obtain ⟨V, hV⟩ : ∃ V, y.toNat ^^^ M = V := ⟨_, rfl⟩
        rw [hV] at hv hset hlt256
        have HS := Lib.hid hset
        clear hset hy
        have hst := hown.stored Q (.int .u8 (V : Int))
        have hs' : ((ys ++ Fo).map (Value.int .u8)).set Q (.int .u8 (V : Int)) = ((ys.set Q (V : Int)) ++ Fo).map (Value.int .u8) := by
          rw [← List.set_append_left _ _ (by omega)]; simp [List.map_set]
        rw [hs'] at hst
        have HO2 := Lib.hid hst.1
        have HB2 := Lib.hid (hbel.grown hst.2 (by have := hbel.size; omega) (fun j hj => by cases hj; exact (hown.lt g rfl).1))
        have HYV := Lib.hid (show ∀ z ∈ ys.set Q (V : Int), 0 ≤ z ∧ z ≤ 255 from by
          intro z hz
          rcases List.mem_or_eq_of_mem_set hz with h | rfl
          · exact hyb z h
          · omega)
        have HV := Lib.hid hv
        have HM1 := Lib.hid (show x.toNat % 2 ^ (k + 1) ≠ 0 from by
          rw [hmod, hbit]; have := Nat.two_pow_pos k; omega)
        have HSH := Lib.hid (show M <<< (8 * Q) = (2 ^ k) <<< F from by
          rw [← hM, Nat.shiftLeft_eq, Nat.shiftLeft_eq, ← Nat.pow_add, ← Nat.pow_add]
          congr 1; omega)
        clear hst hs' hv
        have hfz := hown.frozenAt Q
        have hq1 : ¬ ((Q : Int) < 0) := by omega
        have hq2 : (Q : Int) < (n : Int) + 4 := by omega
        have hq3 : Q < n + 4 := by omega
        have hq4 : (0 : Int) ≤ (Q : Int) := by omega
        have HO := Lib.hid hown
        have HBe := Lib.hid hbel
        have HYB := Lib.hid hyb
        have HM := Lib.hid hmod
        have HNY := Lib.hid hny
        clear hown hbel hyb hmod hny hxk hand
        go_wp2_with fail
        refine regionT_begin (by kernel_rfl) ?_
        refine stepT_read 0 (some 62) (v := ?v0) rfl (by rfl) (by kernel_rfl) (by kernel_rfl) (by kernel_rfl) (fun _ _ _ h => h) (by rfl) ?y0 ?n0
        case y0 => intro W; go_simp; try with_reducible rfl
        try simp only [Act.put, List.setIfInBounds_toArray, List.set_cons_zero, List.set_cons_succ]
        refine stepT_read 1 (some 63) (v := ?v1) rfl (by rfl) (by kernel_rfl) (by kernel_rfl) (by kernel_rfl) (fun _ _ _ h => h) (by rfl) ?y1 ?n1
        case y1 => intro W; go_simp; try with_reducible rfl
        try simp only [Act.put, List.setIfInBounds_toArray, List.set_cons_zero, List.set_cons_succ]
        refine stepT_read 2 (some 64) (v := ?v2) rfl (by rfl) (by kernel_rfl) (by kernel_rfl) (by kernel_rfl) (fun _ _ _ h => h) (by rfl) ?y2 ?n2
        case y2 => intro W; go_simp; try with_reducible rfl
        try simp only [Act.put, List.setIfInBounds_toArray, List.set_cons_zero, List.set_cons_succ]
        refine stepT_read 3 (some 65) (v := ?v3) rfl (by rfl) (by kernel_rfl) (by kernel_rfl) (by kernel_rfl) (fun _ _ _ h => h) (by rfl) ?y3 ?n3
        case y3 => intro W; go_simp; try with_reducible rfl
        try simp only [Act.put, List.setIfInBounds_toArray, List.set_cons_zero, List.set_cons_succ]
        refine stepT_read 4 (some 66) (v := ?v4) rfl (by rfl) (by kernel_rfl) (by kernel_rfl) (by kernel_rfl) (fun _ _ _ h => h) (by rfl) ?y4 ?n4
        case y4 => intro W; go_simp; try with_reducible rfl
        try simp only [Act.put, List.setIfInBounds_toArray, List.set_cons_zero, List.set_cons_succ]
        refine stepT_read 5 (some 67) (v := ?v5) rfl (by rfl) (by kernel_rfl) (by kernel_rfl) (by kernel_rfl) (fun _ _ _ h => h) (by rfl) ?y5 ?n5
        case y5 => intro W; go_simp; try with_reducible rfl
        try simp only [Act.put, List.setIfInBounds_toArray, List.set_cons_zero, List.set_cons_succ]
        refine stepT_read 7 (some 69) (v := ?v7) rfl (by rfl) (by kernel_rfl) (by kernel_rfl) (by kernel_rfl) (fun _ _ _ h => h) (by rfl) ?y7 ?n7
        case y7 => intro W; go_simp; try with_reducible rfl
        try simp only [Act.put, List.setIfInBounds_toArray, List.set_cons_zero, List.set_cons_succ]
        refine stepT_read 8 (some 70) (v := ?v8) rfl (by rfl) (by kernel_rfl) (by kernel_rfl) (by kernel_rfl) (fun _ _ _ h => h) (by rfl) ?y8 ?n8
        case y8 => intro W; go_simp; try with_reducible rfl
        try simp only [Act.put, List.setIfInBounds_toArray, List.set_cons_zero, List.set_cons_succ]
        refine stepT_read 9 (some 71) (v := ?v9) rfl (by rfl) (by kernel_rfl) (by kernel_rfl) (by kernel_rfl) (fun _ _ _ h => h) (by rfl) ?y9 ?n9
        case y9 => intro W; go_simp; try with_reducible rfl
        try simp only [Act.put, List.setIfInBounds_toArray, List.set_cons_zero, List.set_cons_succ]
        refine stepT_read 10 (some 72) (v := ?v10) rfl (by rfl) (by kernel_rfl) (by kernel_rfl) (by kernel_rfl) (fun _ _ _ h => h) (by rfl) ?y10 ?n10
        case y10 => intro W; go_simp; try with_reducible rfl
        try simp only [Act.put, List.setIfInBounds_toArray, List.set_cons_zero, List.set_cons_succ]
        refine stepT_read 11 (some 73) (v := ?v11) rfl (by rfl) (by kernel_rfl) (by kernel_rfl) (by kernel_rfl) (fun _ _ _ h => h) (by rfl) ?y11 ?n11
        case y11 => intro W; go_simp; try with_reducible rfl
        try simp only [Act.put, List.setIfInBounds_toArray, List.set_cons_zero, List.set_cons_succ]
        -- 6: load -> 68
        refine stepT_only 6 rfl (by kernel_rfl) (by rfl) (fun K' hK => ?_)
        go_simp
        refine hK _ _ ?_
        clear hK K'
        try simp only [Act.put, List.setIfInBounds_toArray, List.set_cons_zero, List.set_cons_succ]
        refine stepT_read 12 (some 74) (v := ?v12) rfl (by rfl) (by kernel_rfl) (by kernel_rfl) (by kernel_rfl) (fun _ _ _ h => h) (by rfl) ?y12 ?n12
        case y12 => intro W; go_simp; try with_reducible rfl
        try simp only [Act.put, List.setIfInBounds_toArray, List.set_cons_zero, List.set_cons_succ]
        refine stepT_read 13 (some 75) (v := ?v13) rfl (by rfl) (by kernel_rfl) (by kernel_rfl) (by kernel_rfl) (fun _ _ _ h => h) (by rfl) ?y13 ?n13
        case y13 => intro W; go_simp; try with_reducible rfl
        try simp only [Act.put, List.setIfInBounds_toArray, List.set_cons_zero, List.set_cons_succ]
        -- 14: store -> None
        refine stepT_only 14 rfl (by kernel_rfl) (by rfl) (fun K' hK => ?_)
        go_simp
        refine hK _ _ ?_
        clear hK K'
        try simp only [Act.put, List.setIfInBounds_toArray, List.set_cons_zero, List.set_cons_succ]
        refine wpAnyH_done (by kernel_rfl) ?_ _

        go_wp2_with fail
        rw [HV.out]
        refine ⟨⟨k + 1, _, ys.set Q (V : Int), by omega, by omega, by go_num, rfl, ?_, by simp [hyl], HYV.out, ?_, HO2.out.drew, HB2.out.drew⟩, by simp [intOf]; omega⟩
        · have := HM1.out
          simp only [ne_eq, this, not_false_eq_true, decide_true]
        · rw [HS.out, HNY.out, HSH.out, hE, mod_bit x.toNat k hbit, Nat.shiftLeft_xor_distrib, Nat.xor_assoc]
      · have hcond : bits .and .u32 (x / 2 ^ k) 1 = 0 := by rw [hand, show x.toNat / 2 ^ k % 2 = 0 by omega]; rfl
        have h01 : ((0 : Int) == 1) = false := rfl
        clear hxk hand
        go_wp2_with fail
        refine ⟨⟨k + 1, E, ys, by omega, by omega, by go_num, ?_, ?_, hyl, hyb, hny, hown, hbel⟩, by simp [intOf]; omega⟩
        · rw [hE, hmod, show x.toNat / 2 ^ k % 2 = 0 by omega, Nat.mul_zero, Nat.add_zero]
        · rw [hE]; simp
    · have hE32 : E < 4294967296 := by rw [hE]; exact Nat.lt_of_le_of_lt (Nat.mod_le _ _) (by omega)
      have hob := open_burst bs ys E F (by omega) HB.out.mem hyb (by omega) hE32 hny
      rw [hFo] at hob
      have hFl : Fo.length = 4 := by rw [← hFo]; exact fourC_len _
      have HB4 := Lib.hid (show Bytes (ys ++ Fo) from by
        intro j hj
        have : (ys ++ Fo).getD j 0 ∈ ys ++ Fo := by rw [List.getD, List.getElem?_eq_getElem hj]; exact List.getElem_mem hj
        rcases List.mem_append.1 this with h | h
        · exact hyb _ h
        · rw [← hFo] at h ⊢; exact (fourC_bytes _).mem _ h)
      have HOB := Lib.hid hob
      have HT4 := Lib.hid (HT.out.below hbel (by omega))
      have HN4 := Lib.hid (IsNums.ofOwn (zs := ys ++ Fo) hown)
      clear hob hown hyb hny
      by_cases l1 : k < 32
      all_goals
        go_wp2_with fail
        refine (open_is _ n (n + 4) cap (ys ++ Fo) wr HT4.out (by have := hbel.size; omega) HN4.out (by rw [List.length_append, hyl, hFl]) rfl hcap HB4.out (by omega) _ _ _ rfl rfl HOB.out).mono ?_
        rintro e w6 ⟨p6, c6, rfl, hN6, hb6⟩
        have hB6 : Below N w w6 := hbel.trans (hb6.mono (by have := hbel.size; omega))
        clear hN6 hb6
        go_wp2
        go_ret
        exact ⟨by cases decide (x.toNat % 2 ^ k = 0) <;> rfl, by rw [hN]; exact hB6⟩
end Go.Proofs.YtkbehdjaegomgaaDoor.K
