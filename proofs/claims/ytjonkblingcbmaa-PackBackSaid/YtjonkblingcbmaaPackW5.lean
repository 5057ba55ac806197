/- The walk of PackBack: it returns true, and writes nothing that was there. -/
import Derived.Test.YtjonkblingcbmaaPackL
namespace Go.Proofs.Ytjonkblingcbmaa.K
open Go.ChangeShapes Go.WideShapes Go.ChangeAt Go.RowKit
set_option linter.unusedVariables false

theorem two_ok (X z : Int) (x0 : 0 ≤ X) (x1 : X ≤ 18446744073709551615) (z0 : 0 ≤ z) (z1 : z ≤ 18446744073709551615) : ∀ j, j < [X, z].length → 0 ≤ [X, z].getD j 0 ∧ [X, z].getD j 0 ≤ 18446744073709551615 := by
  intro j hj
  match j, hj with
  | 0, _ => exact ⟨x0, x1⟩
  | 1, _ => exact ⟨z0, z1⟩

theorem lists3 {w : World} {a b c : Value} {A B C : List Int} (ha : IsNums .u8 w a A) (hb : IsNums .u8 w b B) (hc : IsNums .u8 w c C) (T : TypeId) : IsLists (w.alloc (.cells #[a, b, c] T)) (.slice (some ⟨w.heap.size, 0, none⟩) 3 3) [A, B, C] :=
  IsLists.lit w [a, b, c] [A, B, C] _ T 3 3 rfl rfl rfl (fun j hj => by
    match j, hj with
    | 0, _ => exact ha
    | 1, _ => exact hb
    | 2, _ => exact hc)

theorem num_is (B : Nat) (v : Value) (bs : List Int) (e most : Int) (w : World) (h : IsReader w B v bs e) (m0 : 0 ≤ most) (X : Int) (R : List Int) (e1 : Int) (hq : numR bs e most = (X, R, e1)) :
    Calls Try.prog 18 #[.pointer (some ⟨B, 0, none⟩), .int .u64 most] w fun en w' => en = .returned (.int .u64 X) ∧ ∃ v', IsReader w' B v' R e1 ∧ Only B w w' := by
  have := num_any B v bs e most w h m0
  rw [hq] at this
  exact this
theorem rlump_is (B : Nat) (v : Value) (bs : List Int) (e most : Int) (w : World) (h : IsReader w B v bs e) (m0 : -9223372036854775808 ≤ most) (m1 : most ≤ 9223372036854775807) (hl : bs.length ≤ 100000) (S R : List Int) (e1 : Int) (hq : lumpR bs e most = (S, R, e1)) (n : Nat) (hn : S.length = n) :
    Calls Try.prog 16 #[.pointer (some ⟨B, 0, none⟩), .int .i64 most] w fun en w' => ∃ p c, en = .returned (.slice p n c) ∧ IsNums .u8 w' (.slice p n c) S ∧ ∃ v', IsReader w' B v' R e1 ∧ Only B w w' := by
  subst hn
  refine (rlump_any B v bs e most w h m0 m1 hl).mono fun en w' hp => ?_
  rw [hq] at hp
  obtain ⟨u, rfl, hown, v', hr, ho⟩ := hp
  have hN := IsNums.ofOwn hown
  obtain ⟨p, c, rfl, -⟩ := id hN
  exact ⟨p, c, rfl, hN, v', hr, ho⟩

set_option maxRecDepth 100000 in
set_option maxHeartbeats 8000000 in
theorem back_walk (p0 : Option Addr) (m0 c0 : Nat) (zs : List Int) (a : Option Addr) (ln lc : Nat) (ls : List (List Int)) (kk : Int) (w : World)
    (h0 : IsNums .u64 w (.slice p0 m0 c0) zs) (hl0 : zs.length = m0) (hm0 : m0 ≤ maxLen) (f0 : ∀ j, j < zs.length → 0 ≤ zs.getD j 0 ∧ zs.getD j 0 ≤ 18446744073709551615)
    (h1 : IsLists w (.slice a ln lc) ls) (hl1 : ls.length = ln) (hm1 : ln ≤ maxLen) (f1 : ∀ j, j < ls.length → ∀ y ∈ ls.getD j [], 0 ≤ y ∧ y ≤ 255) (k0 : 0 ≤ kk) (k1 : kk ≤ 255) :
    Calls Try.prog 4 #[.slice p0 m0 c0, .slice a ln lc, .int .u8 kk] w fun e w' => e = .returned (.bool true) ∧ Below w.heap.size w w' := by
  unfold maxLen at hm0 hm1
  have H0 := Lib.hid h0
  have F0 := Lib.hid f0
  have H1 := Lib.hid h1
  have F1 := Lib.hid f1
  clear h0 f0 h1 f1
  by_cases q : 8 < ln ∨ m0 < ln
  · go_enter Try.func4, Try.ntmps4
    go_wp2_with fail
    refine (known_true _).mono ?_
    rintro en w1 ⟨rfl, hb1⟩
    by_cases q1 : 8 < ln
    · go_wp2
      go_ret
      exact ⟨rfl, hb1⟩
    · go_wp2
      go_ret
      exact ⟨rfl, hb1⟩
  have q1 : ln ≤ 8 := by omega
  have q2 : ln ≤ m0 := by omega
  clear q
  obtain ⟨N, hN⟩ : ∃ N, w.heap.size = N := ⟨_, rfl⟩
  go_enter Try.func4, Try.ntmps4
  go_wp2_with fail
  refine (known_true _).mono ?_
  rintro en w1 ⟨rfl, hbw1⟩
  rw [hN] at hbw1
  have d1 : decide ((8 : Int) < (ln : Int)) = false := by simp; omega
  have d2 : decide ((m0 : Int) < (ln : Int)) = false := by simp; omega
  have d3 : decide (m0 < ln) = false := by simp; omega
  go_wp2_with fail
  obtain ⟨IT, hIT⟩ : ∃ IT, itemsB zs kk ls = IT := ⟨_, rfl⟩
  have hITl : IT.length = ln := by rw [← hIT, itemsB_len, hl1]
  have HIT := Lib.hid hIT
  clear hIT
  go_loopw [7, 8] (fun v i wr => ∃ k : Nat, k ≤ ln ∧ i = .int .i64 k ∧ (∀ j, j < k → (ls.getD j []).length ≤ 40) ∧ IsNums .u8 wr v (IT.take k).flatten ∧ (IT.take k).flatten.length ≤ 70 * k ∧ Below N w wr) (fun _ i _ => ln - (intOf i).toNat)
  case atStart => exact ⟨0, by omega, rfl, by intro j hj; omega, by simpa using IsNums.nil _ _ _ _, by simp, hbw1⟩
  case round =>
    obtain ⟨k, hk, rfl, h40, hbv, hbl, hbel⟩ := hrel
    have H40 := Lib.hid h40
    clear h40
    have hsr := hbel.size
    by_cases hlt : k < ln
    · obtain ⟨a', c', hv', hA⟩ := H1.out
      simp only [Value.slice.injEq] at hv'
      obtain ⟨rfl, -, rfl⟩ := hv'
      obtain h00 | ⟨b, off, rfl, hblk, hcells⟩ := hA
      · omega
      obtain ⟨u, hu, hnu⟩ := hcells k (by omega)
      obtain ⟨up, uc, rfl, hup⟩ := id hnu
      obtain ⟨pa, pc, hpv, hP⟩ := H0.out
      simp only [Value.slice.injEq] at hpv
      obtain ⟨rfl, -, rfl⟩ := hpv
      obtain h00 | ⟨b0, off0, rfl, hblk0, hcells0⟩ := hP
      · omega
      have hz := hcells0 k (by omega)
      have hzb := F0.out k (by omega)
      have hlb := F1.out k (by omega)
      have hitem : IT.getD k [] = itemB (zs.getD k 0) kk (ls.getD k []) := by rw [← HIT.out]; exact itemsB_at zs kk ls k (by omega)
      have hsn := flatten_snoc IT k (by omega)
      rw [hitem] at hsn
      obtain ⟨z, hz'⟩ : ∃ z, zs.getD k 0 = z := ⟨_, rfl⟩
      obtain ⟨l, hl'⟩ : ∃ l, ls.getD k [] = l := ⟨_, rfl⟩
      rw [hz'] at hz hzb hsn hitem
      rw [hl'] at hu hnu hlb hsn hitem hup
      have hilen := itemB_len z kk l
      obtain ⟨M, hM⟩ : ∃ M, l.length = M := ⟨_, rfl⟩
      have HM := Lib.hid hM
      have HL' := Lib.hid hl'
      rw [hM] at hu hnu
      have HZ := Lib.hid (fun W (hW : Below N w W) => (show W.cell? ⟨b0, off0 + k, none⟩ = some (.int .u64 z) by rw [hW.cell (by show b0 < N; omega)]; exact hz))
      have HC := Lib.hid (fun W (hW : Below N w W) => (show W.cell? ⟨b, off + k, none⟩ = some (.slice up M uc) by rw [hW.cell (by show b < N; omega)]; exact hu))
      have HU := Lib.hid (fun W (hW : Below N w W) => (hnu.below hW (by omega)))
      have hcr := HC.out wr hbel
      have HSN := Lib.hid hsn
      have HBv := Lib.hid hbv
      obtain ⟨pb, cb, rfl, -⟩ := id hbv
      obtain ⟨Bk, hBk⟩ : ∃ Bk, (IT.take k).flatten = Bk := ⟨_, rfl⟩
      rw [hBk] at HBv HSN hbl
      obtain ⟨nb, hnb⟩ : ∃ nb, Bk.length = nb := ⟨_, rfl⟩
      have HNB := Lib.hid hnb
      rw [hBk, hnb]
      rw [hnb] at hbl
      have HBv := Lib.hid (by have h := HBv.out; rw [hnb] at h; exact h : IsNums .u8 wr (.slice pb nb cb) Bk)
      clear hbv hBk hnb hsn hitem hl' hz' hz hcells hcells0 hu hnu hup hM
      by_cases hbig : 40 < M
      · go_wp2
        go_ret
        exact ⟨rfl, by rw [hN]; exact hbel⟩
      · have hk0 : (0 : Int) ≤ (k : Int) := by omega
        have hk1 : (k : Int) < (m0 : Int) := by omega
        have hk2 : (k : Int) < (ln : Int) := by omega
        have hM40 : ¬ (40 : Int) < (M : Int) := by omega
        go_wp2_with fail
        have hW0 : Below N w wr.drew := hbel.drew
        have hN0 : N ≤ wr.drew.heap.size := by have := hW0.size; omega
        have hL : Low N wr.drew wr.drew := Below.refl _ _
        have HBv := Lib.hid (HBv.out.drew)
        obtain ⟨X, hX⟩ : ∃ X, edgeF z kk = X := ⟨_, rfl⟩
        have HX := Lib.hid hX
        have hXb := edge_bd z kk hzb.1 hzb.2
        rw [hX] at hXb
        obtain ⟨S1, hS1⟩ : ∃ S1, encs [X, z] = S1 := ⟨_, rfl⟩
        have hS1l := encs_len [X, z]
        rw [hS1] at hS1l
        obtain ⟨n1, hn1⟩ : ∃ n1, S1.length = n1 := ⟨_, rfl⟩
        have HS1 := Lib.hid hS1
        have Hn1 := Lib.hid hn1
        rw [hn1] at hS1l
        obtain ⟨S2, hS2⟩ : ∃ S2, enc l.length ++ l = S2 := ⟨_, rfl⟩
        have hS2l : S2.length ≤ 10 + M := by rw [← hS2, List.length_append, HM.out]; have := (enc_len (l.length : Int)).1; rw [HM.out] at this; omega
        obtain ⟨n2, hn2⟩ : ∃ n2, S2.length = n2 := ⟨_, rfl⟩
        have HS2 := Lib.hid hS2
        have Hn2 := Lib.hid hn2
        rw [hn2] at hS2l
        have HIS := Lib.hid (show itemB z kk l = S1 ++ S2 by unfold itemB; rw [hX, hS1, hS2])
        clear hX hS1 hS2 hn1 hn2
        simp only [List.length_cons, List.length_nil] at hS1l
        refine regionB_begin N (by kernel_rfl) ?_
        refine stepB_read 0 (some 35) (v := ?v0) hL rfl (by rfl) (by kernel_rfl) (by kernel_rfl) (by kernel_rfl) (fun _ _ _ h => h) (by rfl) ?y0 ?n0
        case y0 => intro W hW; go_simp; try with_reducible rfl
        try simp only [Act.put, List.setIfInBounds_toArray, List.set_cons_zero, List.set_cons_succ]
        refine stepB_read 1 (some 36) (v := ?v1) hL rfl (by rfl) (by kernel_rfl) (by kernel_rfl) (by kernel_rfl) (fun _ _ _ h => h) (by rfl) ?y1 ?n1
        case y1 => intro W hW; go_simp; try with_reducible rfl
        try simp only [Act.put, List.setIfInBounds_toArray, List.set_cons_zero, List.set_cons_succ]
        refine stepB_read 2 (some 37) (v := ?v2) hL rfl (by rfl) (by kernel_rfl) (by kernel_rfl) (by kernel_rfl) (fun _ _ _ h => h) (by rfl) ?y2 ?n2
        case y2 => intro W hW; go_simp; try with_reducible rfl
        try simp only [Act.put, List.setIfInBounds_toArray, List.set_cons_zero, List.set_cons_succ]
        refine stepB_read 3 (some 38) (v := ?v3) hL rfl (by rfl) (by kernel_rfl) (by kernel_rfl) (by kernel_rfl) (fun _ _ _ h => h) (by rfl) ?y3 ?n3
        case y3 => intro W hW; go_simp; try with_reducible rfl
        try simp only [Act.put, List.setIfInBounds_toArray, List.set_cons_zero, List.set_cons_succ]
        refine stepB_read 4 (some 39) (v := ?v4) hL rfl (by rfl) (by kernel_rfl) (by kernel_rfl) (by kernel_rfl) (fun _ _ _ h => h) (by rfl) ?y4 ?n4
        case y4 => intro W hW; have hc := HZ.out W (hW0.trans hW); go_simp; try with_reducible rfl
        try simp only [Act.put, List.setIfInBounds_toArray, List.set_cons_zero, List.set_cons_succ]
        refine stepB_read 5 (some 40) (v := ?v5) hL rfl (by rfl) (by kernel_rfl) (by kernel_rfl) (by kernel_rfl) (fun _ _ _ h => h) (by rfl) ?y5 ?n5
        case y5 => intro W hW; go_simp; try with_reducible rfl
        try simp only [Act.put, List.setIfInBounds_toArray, List.set_cons_zero, List.set_cons_succ]
        refine stepB_read 7 (some 42) (v := ?v7) hL rfl (by rfl) (by kernel_rfl) (by kernel_rfl) (by kernel_rfl) (fun _ _ _ h => h) (by rfl) ?y7 ?n7
        case y7 => intro W hW; go_simp; try with_reducible rfl
        try simp only [Act.put, List.setIfInBounds_toArray, List.set_cons_zero, List.set_cons_succ]
        refine stepB_read 8 (some 43) (v := ?v8) hL rfl (by rfl) (by kernel_rfl) (by kernel_rfl) (by kernel_rfl) (fun _ _ _ h => h) (by rfl) ?y8 ?n8
        case y8 => intro W hW; go_simp; try with_reducible rfl
        try simp only [Act.put, List.setIfInBounds_toArray, List.set_cons_zero, List.set_cons_succ]
        refine stepB_read 9 (some 44) (v := ?v9) hL rfl (by rfl) (by kernel_rfl) (by kernel_rfl) (by kernel_rfl) (fun _ _ _ h => h) (by rfl) ?y9 ?n9
        case y9 => intro W hW; go_simp; try with_reducible rfl
        try simp only [Act.put, List.setIfInBounds_toArray, List.set_cons_zero, List.set_cons_succ]
        refine stepB_read 10 (some 45) (v := ?v10) hL rfl (by rfl) (by kernel_rfl) (by kernel_rfl) (by kernel_rfl) (fun _ _ _ h => h) (by rfl) ?y10 ?n10
        case y10 => intro W hW; have hc := HZ.out W (hW0.trans hW); go_simp; try with_reducible rfl
        try simp only [Act.put, List.setIfInBounds_toArray, List.set_cons_zero, List.set_cons_succ]
        refine stepB_read 13 (some 48) (v := ?v13) hL rfl (by rfl) (by kernel_rfl) (by kernel_rfl) (by kernel_rfl) (fun _ _ _ h => h) (by rfl) ?y13 ?n13
        case y13 => intro W hW; go_simp; try with_reducible rfl
        try simp only [Act.put, List.setIfInBounds_toArray, List.set_cons_zero, List.set_cons_succ]
        refine stepB_read 14 (some 49) (v := ?v14) hL rfl (by rfl) (by kernel_rfl) (by kernel_rfl) (by kernel_rfl) (fun _ _ _ h => h) (by rfl) ?y14 ?n14
        case y14 => intro W hW; go_simp; try with_reducible rfl
        try simp only [Act.put, List.setIfInBounds_toArray, List.set_cons_zero, List.set_cons_succ]
        refine stepB_read 15 (some 50) (v := ?v15) hL rfl (by rfl) (by kernel_rfl) (by kernel_rfl) (by kernel_rfl) (fun _ _ _ h => h) (by rfl) ?y15 ?n15
        case y15 => intro W hW; go_simp; try with_reducible rfl
        try simp only [Act.put, List.setIfInBounds_toArray, List.set_cons_zero, List.set_cons_succ]
        refine stepB_read 16 (some 51) (v := ?v16) hL rfl (by rfl) (by kernel_rfl) (by kernel_rfl) (by kernel_rfl) (fun _ _ _ h => h) (by rfl) ?y16 ?n16
        case y16 => intro W hW; have hc := HC.out W (hW0.trans hW); go_simp; try with_reducible rfl
        try simp only [Act.put, List.setIfInBounds_toArray, List.set_cons_zero, List.set_cons_succ]
        -- 6: call:14 -> 41
        refine stepB_only 6 rfl (by kernel_rfl) (by rfl) (fun K' hK => ?_)
        go_simp
        go_at_call 14
        refine (edge_any z kk _ hzb.1 hzb.2 k0 k1).mono ?_
        rw [HX.out]
        rintro e x6 ⟨rfl, hb6⟩
        replace HBv := Lib.hid (HBv.out.below hb6 (Nat.le_refl _))
        replace hL : Low N wr.drew x6 := hL.trans (hb6.mono (Nat.le_trans hN0 hL.size))
        refine hK _ _ hL ?_
        clear hb6
        clear hK K'
        try simp only [Act.put, List.setIfInBounds_toArray, List.set_cons_zero, List.set_cons_succ]
        -- 11: buildSlice -> 46
        refine stepB_only 11 rfl (by kernel_rfl) (by rfl) (fun K' hK => ?_)
        go_simp
        have hL0 := hL
        replace hL := Below.alloc hL (Nat.le_trans hN0 hL.size) (.cells #[.int .u64 X, .int .u64 z] 30)
        refine hK _ _ hL ?_
        replace HBv := Lib.hid (HBv.out.alloc (.cells #[.int .u64 X, .int .u64 z] 30))
        clear hL0
        clear hK K'
        try simp only [Act.put, List.setIfInBounds_toArray, List.set_cons_zero, List.set_cons_succ]
        -- 12: call:12 -> 47
        refine stepB_only 12 rfl (by kernel_rfl) (by rfl) (fun K' hK => ?_)
        go_simp
        go_at_call 12
        refine (put_is _ [X, z] _ (IsNums.lit .u64 x6 [X, z] _ _ _ _ rfl rfl) (two_ok X z hXb.1 hXb.2 hzb.1 hzb.2) (by simp) S1 n1 HS1.out Hn1.out).mono ?_
        rintro e x12 ⟨p12, c12, rfl, hN12, hb12⟩
        replace HBv := Lib.hid (HBv.out.below hb12 (Nat.le_refl _))
        replace hL : Low N wr.drew x12 := hL.trans (hb12.mono (Nat.le_trans hN0 hL.size))
        have K12 := Lib.hid hN12
        refine hK _ _ hL ?_
        clear hb12 hN12
        clear hK K'
        try simp only [Act.put, List.setIfInBounds_toArray, List.set_cons_zero, List.set_cons_succ]
        -- 17: call:9 -> 52
        refine stepB_only 17 rfl (by kernel_rfl) (by rfl) (fun K' hK => ?_)
        go_simp
        go_at_call 9
        refine (lump_is _ l _ (HU.out _ (hW0.trans hL)) (by rw [HM.out]; omega) S2 n2 HS2.out Hn2.out).mono ?_
        rintro e x17 ⟨p17, c17, rfl, hN17, hb17⟩
        replace HBv := Lib.hid (HBv.out.below hb17 (Nat.le_refl _))
        replace K12 := Lib.hid (K12.out.below hb17 (Nat.le_refl _))
        replace hL : Low N wr.drew x17 := hL.trans (hb17.mono (Nat.le_trans hN0 hL.size))
        have K17 := Lib.hid hN17
        refine hK _ _ hL ?_
        clear hb17 hN17
        clear hK K'
        try simp only [Act.put, List.setIfInBounds_toArray, List.set_cons_zero, List.set_cons_succ]
        -- 18: buildSlice -> 53
        refine stepB_only 18 rfl (by kernel_rfl) (by rfl) (fun K' hK => ?_)
        go_simp
        have HJ := Lib.hid (lists3 HBv.out K12.out K17.out 22)
        replace hL := Below.alloc hL (Nat.le_trans hN0 hL.size) (.cells #[.slice pb nb cb, .slice p12 n1 c12, .slice p17 n2 c17] 22)
        refine hK _ _ hL ?_
        clear hK K'
        try simp only [Act.put, List.setIfInBounds_toArray, List.set_cons_zero, List.set_cons_succ]
        -- 19: call:11 -> 54
        refine stepB_only 19 rfl (by kernel_rfl) (by rfl) (fun K' hK => ?_)
        go_simp
        go_at_call 11
        refine (join_is _ [Bk, S1, S2] _ HJ.out (by simp) (by simp [sumLen, HNB.out, Hn1.out, Hn2.out]; omega) (Bk ++ (S1 ++ S2)) (nb + (n1 + n2)) (by simp) (by simp [HNB.out, Hn1.out, Hn2.out])).mono ?_
        rintro e x19 ⟨p19, c19, rfl, hN19, hb19⟩
        replace hL : Low N wr.drew x19 := hL.trans (hb19.mono (Nat.le_trans hN0 hL.size))
        refine hK _ _ hL ?_
        clear hK K'
        try simp only [Act.put, List.setIfInBounds_toArray, List.set_cons_zero, List.set_cons_succ]
        refine stepB_read 20 (some 7) (v := ?v20) hL rfl (by rfl) (by kernel_rfl) (by kernel_rfl) (by kernel_rfl) (fun _ _ _ h => h) (by rfl) ?y20 ?n20
        case y20 => intro W hW; go_simp; try with_reducible rfl
        try simp only [Act.put, List.setIfInBounds_toArray, List.set_cons_zero, List.set_cons_succ]
        refine wpAnyH_done (by kernel_rfl) ?_ _
        go_wp2_with fail
        have e19 : (IT.take (k + 1)).flatten = Bk ++ (S1 ++ S2) := by rw [HSN.out, HIS.out]
        have E19 := Lib.hid e19
        have HN19 := Lib.hid hN19
        have HLx := Lib.hid (hW0.trans hL)
        clear e19 hN19 hL hb19
        go_roundw
        case rel =>
          refine ⟨k + 1, by omega, by go_num, ?_, by rw [E19.out]; exact HN19.out, ?_, HLx.out⟩
          · intro j hj
            by_cases h : j = k
            · subst h; rw [HL'.out, HM.out]; omega
            · exact H40.out j (by omega)
          · rw [E19.out, List.length_append, List.length_append, HNB.out, Hn1.out, Hn2.out]; omega
        case measure => simp [intOf]; omega
    · obtain rfl : k = ln := by omega
      have hall : IT.take k = IT := by rw [← hITl, List.take_length]
      rw [hall] at hbv hbl
      have hby : ∀ x ∈ IT.flatten, 0 ≤ x ∧ x ≤ 255 := by
        intro x hx
        obtain ⟨l, hl, hxl⟩ := List.mem_flatten.1 hx
        obtain ⟨j, hj, rfl⟩ := List.getElem_of_mem hl
        have hjl : j < ls.length := by omega
        have e : IT[j] = itemB (zs.getD j 0) kk (ls.getD j []) := by
          have h := itemsB_at zs kk ls j hjl
          rw [HIT.out] at h
          rw [← h]; simp [List.getD, hj]
        rw [e] at hxl
        have hz := F0.out j (by omega)
        exact itemB_bytes _ _ _ hz.1 hz.2 (F1.out j hjl) (Nat.le_trans (H40.out j (by omega)) (by decide)) x hxl
      have HBY := Lib.hid hby
      have HBv := Lib.hid hbv
      clear hby hbv
      go_wp2_with fail
      refine (new_any _ IT.flatten wr HBv.out HBY.out (by omega)).mono ?_
      rintro en w5 ⟨B, u5, rfl, hBs, hr, hb5⟩
      have hB5 : Below N w w5 := hbel.trans (hb5.mono (by omega))
      have hBN : N ≤ B := by omega
      clear hb5
      go_wp2_with fail
      go_loopw [10] (fun i wr => ∃ (j : Nat) (v : Value), j ≤ k ∧ i = .int .i64 j ∧ IsReader wr B v (IT.drop j).flatten 0 ∧ Below N w wr) (fun i _ => k - (intOf i).toNat)
      case atStart => exact ⟨0, u5, by omega, rfl, by simpa using hr, hB5⟩
      case round =>
        obtain ⟨j, v, hj, rfl, hrq, hbq⟩ := hrel
        have hsq := hbq.size
        by_cases hlt : j < k
        · obtain ⟨a', c', hv', hA⟩ := H1.out
          simp only [Value.slice.injEq] at hv'
          obtain ⟨rfl, -, rfl⟩ := hv'
          obtain h00 | ⟨b, off, rfl, hblk, hcells⟩ := hA
          · omega
          obtain ⟨u, hu, hnu⟩ := hcells j (by omega)
          obtain ⟨up, uc, rfl, hup⟩ := id hnu
          obtain ⟨pa, pc, hpv, hP⟩ := H0.out
          simp only [Value.slice.injEq] at hpv
          obtain ⟨rfl, -, rfl⟩ := hpv
          obtain h00 | ⟨b0, off0, rfl, hblk0, hcells0⟩ := hP
          · omega
          have hz := hcells0 j (by omega)
          have hzb := F0.out j (by omega)
          have h40 := H40.out j hlt
          have hitem : IT.getD j [] = itemB (zs.getD j 0) kk (ls.getD j []) := by rw [← HIT.out]; exact itemsB_at zs kk ls j (by omega)
          have hdr := drop_flat IT j (by omega)
          rw [hitem] at hdr
          obtain ⟨z, hz'⟩ : ∃ z, zs.getD j 0 = z := ⟨_, rfl⟩
          obtain ⟨l, hl'⟩ : ∃ l, ls.getD j [] = l := ⟨_, rfl⟩
          rw [hz'] at hz hzb hdr
          rw [hl'] at hu hnu hdr hup h40
          obtain ⟨R, hR⟩ : ∃ R, (IT.drop (j + 1)).flatten = R := ⟨_, rfl⟩
          rw [hR] at hdr
          have HR := Lib.hid hR
          obtain ⟨X, hX⟩ : ∃ X, edgeF z kk = X := ⟨_, rfl⟩
          have HX := Lib.hid hX
          have hXb := edge_bd z kk hzb.1 hzb.2
          rw [hX] at hXb
          have hdr2 : (IT.drop j).flatten = enc X ++ (enc z ++ (enc l.length ++ (l ++ R))) := by rw [hdr]; simp [itemB, encs, hX]
          have hq1 := numR_ok X hXb.1 hXb.2 (enc z ++ (enc l.length ++ (l ++ R))) 18446744073709551615 hXb.2
          have hq2 := numR_ok z hzb.1 hzb.2 (enc l.length ++ (l ++ R)) z (Int.le_refl _)
          have hq3 := lumpR_ok l R 40 (by omega) (by omega)
          rw [hdr2] at hrq
          have hlen3 : (enc l.length ++ (l ++ R)).length ≤ 100000 := by
            have h1 : (IT.drop j).flatten.length ≤ IT.flatten.length := by
              have h2 : IT.flatten = (IT.take j).flatten ++ (IT.drop j).flatten := by rw [← List.flatten_append, List.take_append_drop]
              rw [h2, List.length_append]; omega
            rw [hdr2] at h1
            simp only [List.length_append] at h1 ⊢
            omega
          obtain ⟨M, hM⟩ : ∃ M, l.length = M := ⟨_, rfl⟩
          have HM := Lib.hid hM
          rw [hM] at hu hnu
          have HZ := Lib.hid (fun W (hW : Below N w W) => (show W.cell? ⟨b0, off0 + j, none⟩ = some (.int .u64 z) by rw [hW.cell (by show b0 < N; omega)]; exact hz))
          have HC := Lib.hid (fun W (hW : Below N w W) => (show W.cell? ⟨b, off + j, none⟩ = some (.slice up M uc) by rw [hW.cell (by show b < N; omega)]; exact hu))
          have HU := Lib.hid (fun W (hW : Below N w W) => (hnu.below hW (by omega)))
          have HQ1 := Lib.hid hq1
          have HQ2 := Lib.hid hq2
          have HQ3 := Lib.hid hq3
          have HL3 := Lib.hid hlen3
          have hk0 : (0 : Int) ≤ (j : Int) := by omega
          have hk1 : (j : Int) < (m0 : Int) := by omega
          have hk2 : (j : Int) < (k : Int) := by omega
          have hW0 : Below N w wr.drew := hbq.drew
          have hN0 : N ≤ wr.drew.heap.size := by have := hW0.size; omega
          have HRD := Lib.hid (hrq.later ((Below.refl _ wr).drew))
          clear hr hrq hdr hdr2 hq1 hq2 hq3 hlen3 hitem hz' hl' hX hR hz hcells hcells0 hu hnu hup h40 hM
          go_wp2_with fail
          have hL : Low N wr.drew wr.drew := Below.refl _ _
          refine regionB_begin N (by kernel_rfl) ?_
          refine stepB_read 0 (some 63) (v := ?vb0) hL rfl (by rfl) (by kernel_rfl) (by kernel_rfl) (by kernel_rfl) (fun _ _ _ h => h) (by rfl) ?yb0 ?nb0
          case yb0 => intro W hW; go_simp; try with_reducible rfl
          try simp only [Act.put, List.setIfInBounds_toArray, List.set_cons_zero, List.set_cons_succ]
          refine stepB_read 2 (some 65) (v := ?vb2) hL rfl (by rfl) (by kernel_rfl) (by kernel_rfl) (by kernel_rfl) (fun _ _ _ h => h) (by rfl) ?yb2 ?nb2
          case yb2 => intro W hW; go_simp; try with_reducible rfl
          try simp only [Act.put, List.setIfInBounds_toArray, List.set_cons_zero, List.set_cons_succ]
          refine stepB_read 3 (some 66) (v := ?vb3) hL rfl (by rfl) (by kernel_rfl) (by kernel_rfl) (by kernel_rfl) (fun _ _ _ h => h) (by rfl) ?yb3 ?nb3
          case yb3 => intro W hW; go_simp; try with_reducible rfl
          try simp only [Act.put, List.setIfInBounds_toArray, List.set_cons_zero, List.set_cons_succ]
          refine stepB_read 4 (some 67) (v := ?vb4) hL rfl (by rfl) (by kernel_rfl) (by kernel_rfl) (by kernel_rfl) (fun _ _ _ h => h) (by rfl) ?yb4 ?nb4
          case yb4 => intro W hW; go_simp; try with_reducible rfl
          try simp only [Act.put, List.setIfInBounds_toArray, List.set_cons_zero, List.set_cons_succ]
          refine stepB_read 5 (some 68) (v := ?vb5) hL rfl (by rfl) (by kernel_rfl) (by kernel_rfl) (by kernel_rfl) (fun _ _ _ h => h) (by rfl) ?yb5 ?nb5
          case yb5 => intro W hW; have hc := HZ.out W (hW0.trans hW); go_simp; try with_reducible rfl
          try simp only [Act.put, List.setIfInBounds_toArray, List.set_cons_zero, List.set_cons_succ]
          refine stepB_read 6 (some 69) (v := ?vb6) hL rfl (by rfl) (by kernel_rfl) (by kernel_rfl) (by kernel_rfl) (fun _ _ _ h => h) (by rfl) ?yb6 ?nb6
          case yb6 => intro W hW; go_simp; try with_reducible rfl
          try simp only [Act.put, List.setIfInBounds_toArray, List.set_cons_zero, List.set_cons_succ]
          -- 1: call:18 -> 64
          refine stepB_only 1 rfl (by kernel_rfl) (by rfl) (fun K' hK => ?_)
          go_simp
          go_at_call 18
          refine (num_is B _ _ 0 18446744073709551615 _ HRD.out (by omega) X _ 0 HQ1.out).mono ?_
          rintro e x1 ⟨rfl, v1, hr1, ho1⟩
          replace HRD := Lib.hid hr1
          replace hL : Low N wr.drew x1 := hL.trans (ho1.below hBN (Nat.le_trans hN0 hL.size))
          refine hK _ _ hL ?_
          clear hr1 ho1
          clear hK K'
          try simp only [Act.put, List.setIfInBounds_toArray, List.set_cons_zero, List.set_cons_succ]
          -- 7: call:14 -> 70
          refine stepB_only 7 rfl (by kernel_rfl) (by rfl) (fun K' hK => ?_)
          go_simp
          go_at_call 14
          refine (edge_any z kk _ hzb.1 hzb.2 k0 k1).mono ?_
          rw [HX.out]
          rintro e x7 ⟨rfl, hb7⟩
          replace HRD := Lib.hid (HRD.out.later hb7)
          replace hL : Low N wr.drew x7 := hL.trans (hb7.mono (Nat.le_trans hN0 hL.size))
          refine hK _ _ hL ?_
          clear hb7
          clear hK K'
          try simp only [Act.put, List.setIfInBounds_toArray, List.set_cons_zero, List.set_cons_succ]
          refine stepB_read 8 (some 71) (v := ?vb8) hL rfl (by rfl) (by kernel_rfl) (by kernel_rfl) (by kernel_rfl) (fun _ _ _ h => h) (by rfl) ?yb8 ?nb8
          case yb8 => intro W hW; go_simp; try with_reducible rfl
          try simp only [Act.put, List.setIfInBounds_toArray, List.set_cons_zero, List.set_cons_succ]
          refine stepB_read 9 (some 72) (v := ?vb9) hL rfl (by rfl) (by kernel_rfl) (by kernel_rfl) (by kernel_rfl) (fun _ _ _ h => h) (by rfl) ?yb9 ?nb9
          case yb9 => intro W hW; go_simp; try with_reducible rfl
          try simp only [Act.put, List.setIfInBounds_toArray, List.set_cons_zero, List.set_cons_succ]
          refine stepB_read 10 (some 73) (v := ?vb10) hL rfl (by rfl) (by kernel_rfl) (by kernel_rfl) (by kernel_rfl) (fun _ _ _ h => h) (by rfl) ?yb10 ?nb10
          case yb10 => intro W hW; go_simp; try with_reducible rfl
          try simp only [Act.put, List.setIfInBounds_toArray, List.set_cons_zero, List.set_cons_succ]
          refine stepB_read 11 (some 74) (v := ?vb11) hL rfl (by rfl) (by kernel_rfl) (by kernel_rfl) (by kernel_rfl) (fun _ _ _ h => h) (by rfl) ?yb11 ?nb11
          case yb11 => intro W hW; go_simp; try with_reducible rfl
          try simp only [Act.put, List.setIfInBounds_toArray, List.set_cons_zero, List.set_cons_succ]
          refine stepB_read 12 (some 75) (v := ?vb12) hL rfl (by rfl) (by kernel_rfl) (by kernel_rfl) (by kernel_rfl) (fun _ _ _ h => h) (by rfl) ?yb12 ?nb12
          case yb12 => intro W hW; go_simp; try with_reducible rfl
          try simp only [Act.put, List.setIfInBounds_toArray, List.set_cons_zero, List.set_cons_succ]
          refine stepB_read 13 (some 76) (v := ?vb13) hL rfl (by rfl) (by kernel_rfl) (by kernel_rfl) (by kernel_rfl) (fun _ _ _ h => h) (by rfl) ?yb13 ?nb13
          case yb13 => intro W hW; go_simp; try with_reducible rfl
          try simp only [Act.put, List.setIfInBounds_toArray, List.set_cons_zero, List.set_cons_succ]
          refine stepB_read 14 (some 77) (v := ?vb14) hL rfl (by rfl) (by kernel_rfl) (by kernel_rfl) (by kernel_rfl) (fun _ _ _ h => h) (by rfl) ?yb14 ?nb14
          case yb14 => intro W hW; have hc := HZ.out W (hW0.trans hW); go_simp; try with_reducible rfl
          try simp only [Act.put, List.setIfInBounds_toArray, List.set_cons_zero, List.set_cons_succ]
          refine stepB_read 16 (some 79) (v := ?vb16) hL rfl (by rfl) (by kernel_rfl) (by kernel_rfl) (by kernel_rfl) (fun _ _ _ h => h) (by rfl) ?yb16 ?nb16
          case yb16 => intro W hW; go_simp; try with_reducible rfl
          try simp only [Act.put, List.setIfInBounds_toArray, List.set_cons_zero, List.set_cons_succ]
          refine stepB_read 17 (some 80) (v := ?vb17) hL rfl (by rfl) (by kernel_rfl) (by kernel_rfl) (by kernel_rfl) (fun _ _ _ h => h) (by rfl) ?yb17 ?nb17
          case yb17 => intro W hW; go_simp; try with_reducible rfl
          try simp only [Act.put, List.setIfInBounds_toArray, List.set_cons_zero, List.set_cons_succ]
          refine stepB_read 18 (some 81) (v := ?vb18) hL rfl (by rfl) (by kernel_rfl) (by kernel_rfl) (by kernel_rfl) (fun _ _ _ h => h) (by rfl) ?yb18 ?nb18
          case yb18 => intro W hW; go_simp; try with_reducible rfl
          try simp only [Act.put, List.setIfInBounds_toArray, List.set_cons_zero, List.set_cons_succ]
          refine stepB_read 19 (some 82) (v := ?vb19) hL rfl (by rfl) (by kernel_rfl) (by kernel_rfl) (by kernel_rfl) (fun _ _ _ h => h) (by rfl) ?yb19 ?nb19
          case yb19 => intro W hW; have hc := HZ.out W (hW0.trans hW); go_simp; try with_reducible rfl
          try simp only [Act.put, List.setIfInBounds_toArray, List.set_cons_zero, List.set_cons_succ]
          -- 15: call:18 -> 78
          refine stepB_only 15 rfl (by kernel_rfl) (by rfl) (fun K' hK => ?_)
          go_simp
          go_at_call 18
          refine (num_is B _ _ 0 z _ HRD.out hzb.1 z _ 0 HQ2.out).mono ?_
          rintro e x15 ⟨rfl, v15, hr15, ho15⟩
          replace HRD := Lib.hid hr15
          replace hL : Low N wr.drew x15 := hL.trans (ho15.below hBN (Nat.le_trans hN0 hL.size))
          refine hK _ _ hL ?_
          clear hr15 ho15
          clear hK K'
          try simp only [Act.put, List.setIfInBounds_toArray, List.set_cons_zero, List.set_cons_succ]
          refine stepB_read 20 (some 83) (v := ?vb20) hL rfl (by rfl) (by kernel_rfl) (by kernel_rfl) (by kernel_rfl) (fun _ _ _ h => h) (by rfl) ?yb20 ?nb20
          case yb20 => intro W hW; go_simp; try with_reducible rfl
          try simp only [Act.put, List.setIfInBounds_toArray, List.set_cons_zero, List.set_cons_succ]
          refine stepB_read 21 (some 84) (v := ?vb21) hL rfl (by rfl) (by kernel_rfl) (by kernel_rfl) (by kernel_rfl) (fun _ _ _ h => h) (by rfl) ?yb21 ?nb21
          case yb21 => intro W hW; go_simp; try with_reducible rfl
          try simp only [Act.put, List.setIfInBounds_toArray, List.set_cons_zero, List.set_cons_succ]
          refine stepB_read 22 (some 85) (v := ?vb22) hL rfl (by rfl) (by kernel_rfl) (by kernel_rfl) (by kernel_rfl) (fun _ _ _ h => h) (by rfl) ?yb22 ?nb22
          case yb22 => intro W hW; go_simp; try with_reducible rfl
          try simp only [Act.put, List.setIfInBounds_toArray, List.set_cons_zero, List.set_cons_succ]
          refine stepB_read 23 (some 86) (v := ?vb23) hL rfl (by rfl) (by kernel_rfl) (by kernel_rfl) (by kernel_rfl) (fun _ _ _ h => h) (by rfl) ?yb23 ?nb23
          case yb23 => intro W hW; go_simp; try with_reducible rfl
          try simp only [Act.put, List.setIfInBounds_toArray, List.set_cons_zero, List.set_cons_succ]
          refine stepB_read 26 (some 89) (v := ?vb26) hL rfl (by rfl) (by kernel_rfl) (by kernel_rfl) (by kernel_rfl) (fun _ _ _ h => h) (by rfl) ?yb26 ?nb26
          case yb26 => intro W hW; go_simp; try with_reducible rfl
          try simp only [Act.put, List.setIfInBounds_toArray, List.set_cons_zero, List.set_cons_succ]
          refine stepB_read 27 (some 90) (v := ?vb27) hL rfl (by rfl) (by kernel_rfl) (by kernel_rfl) (by kernel_rfl) (fun _ _ _ h => h) (by rfl) ?yb27 ?nb27
          case yb27 => intro W hW; go_simp; try with_reducible rfl
          try simp only [Act.put, List.setIfInBounds_toArray, List.set_cons_zero, List.set_cons_succ]
          refine stepB_read 28 (some 91) (v := ?vb28) hL rfl (by rfl) (by kernel_rfl) (by kernel_rfl) (by kernel_rfl) (fun _ _ _ h => h) (by rfl) ?yb28 ?nb28
          case yb28 => intro W hW; go_simp; try with_reducible rfl
          try simp only [Act.put, List.setIfInBounds_toArray, List.set_cons_zero, List.set_cons_succ]
          refine stepB_read 29 (some 92) (v := ?vb29) hL rfl (by rfl) (by kernel_rfl) (by kernel_rfl) (by kernel_rfl) (fun _ _ _ h => h) (by rfl) ?yb29 ?nb29
          case yb29 => intro W hW; have hc := HC.out W (hW0.trans hW); go_simp; try with_reducible rfl
          try simp only [Act.put, List.setIfInBounds_toArray, List.set_cons_zero, List.set_cons_succ]
          refine stepB_read 30 (some 93) (v := ?vb30) hL rfl (by rfl) (by kernel_rfl) (by kernel_rfl) (by kernel_rfl) (fun _ _ _ h => h) (by rfl) ?yb30 ?nb30
          case yb30 => intro W hW; have ec := conv_at (HU.out W (hW0.trans hW)) (Below.refl _ W); go_simp; try with_reducible rfl
          try simp only [Act.put, List.setIfInBounds_toArray, List.set_cons_zero, List.set_cons_succ]
          -- 24: call:16 -> 87
          refine stepB_only 24 rfl (by kernel_rfl) (by rfl) (fun K' hK => ?_)
          go_simp
          go_at_call 16
          refine (rlump_is B _ _ 0 40 _ HRD.out (by omega) (by omega) HL3.out l R 0 HQ3.out M HM.out).mono ?_
          rintro e x24 ⟨p24, c24, rfl, hN24, v24, hr24, ho24⟩
          have K24 := Lib.hid hN24
          clear hN24
          replace HRD := Lib.hid hr24
          replace hL : Low N wr.drew x24 := hL.trans (ho24.below hBN (Nat.le_trans hN0 hL.size))
          refine hK _ _ hL ?_
          clear hr24 ho24
          clear hK K'
          try simp only [Act.put, List.setIfInBounds_toArray, List.set_cons_zero, List.set_cons_succ]
          -- 25: convert -> 88
          refine stepB_only 25 rfl (by kernel_rfl) (by rfl) (fun K' hK => ?_)
          have ec := conv_at K24.out (Below.refl _ _)
          go_simp
          refine hK _ _ hL ?_
          clear ec
          clear hK K'
          try simp only [Act.put, List.setIfInBounds_toArray, List.set_cons_zero, List.set_cons_succ]
          refine stepB_read 31 (some 94) (v := ?vb31) hL rfl (by rfl) (by kernel_rfl) (by kernel_rfl) (by kernel_rfl) (fun _ _ _ h => h) (by rfl) ?yb31 ?nb31
          case yb31 => intro W hW; go_simp; try with_reducible rfl
          try simp only [Act.put, List.setIfInBounds_toArray, List.set_cons_zero, List.set_cons_succ]
          refine stepB_read 32 (some 95) (v := ?vb32) hL rfl (by rfl) (by kernel_rfl) (by kernel_rfl) (by kernel_rfl) (fun _ _ _ h => h) (by rfl) ?yb32 ?nb32
          case yb32 => intro W hW; go_simp; try with_reducible rfl
          try simp only [Act.put, List.setIfInBounds_toArray, List.set_cons_zero, List.set_cons_succ]
          refine stepB_read 33 (some 96) (v := ?vb33) hL rfl (by rfl) (by kernel_rfl) (by kernel_rfl) (by kernel_rfl) (fun _ _ _ h => h) (by rfl) ?yb33 ?nb33
          case yb33 => intro W hW; go_simp; try with_reducible rfl
          try simp only [Act.put, List.setIfInBounds_toArray, List.set_cons_zero, List.set_cons_succ]
          refine stepB_read 34 (some 97) (v := ?vb34) hL rfl (by rfl) (by kernel_rfl) (by kernel_rfl) (by kernel_rfl) (fun _ _ _ h => h) (by rfl) ?yb34 ?nb34
          case yb34 => intro W hW; go_simp; try with_reducible rfl
          try simp only [Act.put, List.setIfInBounds_toArray, List.set_cons_zero, List.set_cons_succ]
          -- 35: call:20 -> 98
          refine stepB_only 35 rfl (by kernel_rfl) (by rfl) (fun K' hK => ?_)
          go_simp
          go_at_call 20
          refine (err_any B _ _ _ _ HRD.out).mono ?_
          rintro e x35 ⟨rfl, rfl⟩
          refine hK _ _ hL ?_
          clear hK K'
          try simp only [Act.put, List.setIfInBounds_toArray, List.set_cons_zero, List.set_cons_succ]
          refine stepB_read 36 (some 99) (v := ?vb36) hL rfl (by rfl) (by kernel_rfl) (by kernel_rfl) (by kernel_rfl) (fun _ _ _ h => h) (by rfl) ?yb36 ?nb36
          case yb36 => intro W hW; go_simp; try with_reducible rfl
          try simp only [Act.put, List.setIfInBounds_toArray, List.set_cons_zero, List.set_cons_succ]
          refine stepB_read 37 (some 100) (v := ?vb37) hL rfl (by rfl) (by kernel_rfl) (by kernel_rfl) (by kernel_rfl) (fun _ _ _ h => h) (by rfl) ?yb37 ?nb37
          case yb37 => intro W hW; go_simp; try with_reducible rfl
          try simp only [Act.put, List.setIfInBounds_toArray, List.set_cons_zero, List.set_cons_succ]
          refine wpAnyH_done (by kernel_rfl) ?_ _
          go_wp2_with fail
          have HLx := Lib.hid (hW0.trans hL)
          clear hL
          first
            | exact ⟨⟨j + 1, _, by omega, by go_num, by rw [HR.out]; exact HRD.out, HLx.out⟩, by simp [intOf]; omega⟩
            | (go_roundw
               case rel => exact ⟨j + 1, _, by omega, by go_num, by rw [HR.out]; exact HRD.out, HLx.out⟩
               case measure => simp [intOf]; omega)
        · obtain rfl : j = k := by omega
          have hdz : IT.drop j = [] := by rw [List.drop_eq_nil_iff]; omega
          rw [hdz] at hrq
          go_wp2_with fail
          refine (left_any B _ _ _ _ hrq).mono ?_
          rintro en w9 ⟨rfl, rfl⟩
          go_wp2
          go_ret
          exact ⟨rfl, by rw [hN]; exact hbq⟩
end Go.Proofs.Ytjonkblingcbmaa.K
