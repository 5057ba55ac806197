/- The walks of PackEnds and PackShort: each returns true, and writes nothing that was there. -/
import Derived.Test.YtjonkblingcbmaaPackE
namespace Go.Proofs.Ytjonkblingcbmaa.K
open Go.ChangeShapes Go.WideShapes Go.ChangeAt Go.RowKit
set_option linter.unusedVariables false

theorem numR_ok (x : Int) (h0 : 0 ≤ x) (h1 : x ≤ 18446744073709551615) (rest : List Int) (most : Int) (hm : x ≤ most) : numR (enc x ++ rest) 0 most = (x, rest, 0) := by
  unfold numR
  rw [if_pos rfl, dec_enc x h0 h1 rest]
  simp only []
  rw [if_neg (by omega)]
  simp; omega
theorem numR_long (x : Int) (h0 : 0 ≤ x) (h1 : x ≤ 18446744073709551615) (rest : List Int) (most : Int) (hm : most < x) : numR (enc x ++ rest) 0 most = (0, [], 22) := by
  unfold numR
  rw [if_pos rfl, dec_enc x h0 h1 rest]
  simp only []
  rw [if_pos (by omega)]
theorem numR_bad (bs : List Int) (e most : Int) (h : e ≠ 0) : numR bs e most = (0, bs, e) := by rw [numR, if_neg h]
theorem lumpR_bad (bs : List Int) (e most : Int) (h : e ≠ 0) : lumpR bs e most = ([], bs, e) := by
  unfold lumpR
  rw [numR_bad _ _ _ h]
  rw [if_neg h]
theorem lumpR_short (x : Int) (h0 : 0 ≤ x) (h1 : x ≤ 1000) (rest : List Int) (most : Int) (hm : x ≤ most) (hl : (rest.length : Int) < x) : lumpR (enc x ++ rest) 0 most = ([], [], 21) := by
  unfold lumpR
  rw [numR_ok x h0 (by omega) rest (max most 0) (by omega)]
  simp only []
  rw [if_pos trivial, if_pos hl]
theorem enc_small (x : Int) (h0 : 0 ≤ x) (h1 : x < 128) : enc x = [x] := by
  unfold enc encF
  rw [if_pos (by omega)]
  congr 1; omega

set_option maxRecDepth 100000 in
set_option maxHeartbeats 4000000 in
theorem ends_walk (a0 a1 : Int) (v2 : Value) (bs : List Int) (w : World) (l0 : 0 ≤ a0) (u0 : a0 ≤ 18446744073709551615) (l1 : 0 ≤ a1) (u1 : a1 ≤ 255) (h2 : IsNums .u8 w v2 bs) (hb2 : ∀ x ∈ bs, 0 ≤ x ∧ x ≤ 255) (m2 : bs.length ≤ maxLen) :
    Calls Try.prog 5 #[.int .u64 a0, .int .u8 a1, v2] w fun e w' => e = .returned (.bool true) ∧ Below w.heap.size w w' := by
  unfold maxLen at m2
  obtain ⟨p2, c2, rfl, -⟩ := id h2
  have H2 := Lib.hid h2
  have HB2 := Lib.hid hb2
  clear h2 hb2
  by_cases h40 : 40 < bs.length
  · go_enter Try.func5, Try.ntmps5
    go_wp2_with (go_at_call 8; ((with_reducible refine (known_true _).mono ?_); rintro e v ⟨rfl, hb⟩))
    go_ret
    exact ⟨rfl, hb⟩
  go_enter Try.func5, Try.ntmps5
  go_wp2_with fail
  refine (known_true _).mono ?_
  rintro en w1 ⟨rfl, hb1⟩
  go_wp2_with fail
  refine (edge_any a0 a1 _ l0 u0 l1 u1).mono ?_
  rintro en w2 ⟨rfl, hb2⟩
  obtain ⟨x0, x1⟩ := edge_bd a0 a1 l0 u0
  generalize edgeF a0 a1 = X at x0 x1 ⊢
  have hB2 := hb1.trans (hb2.mono hb1.size)
  clear hb1 hb2
  go_wp2_with fail
  refine (put_any _ [X] _ (IsNums.lit .u64 w2 [X] _ _ _ _ rfl rfl) (by intro j hj; simp at hj; subst hj; simp; omega) (by simp)).mono ?_
  rintro en w3 ⟨u3, rfl, hown3, hb3⟩
  have hB3 := (hB2.alloc hB2.size _).trans (hb3.mono (by have := hB2.size; simp; omega))
  rw [show encs [X] = enc X by simp [encs]] at hown3
  have hel := enc_len X
  have HN3 := Lib.hid (IsNums.ofOwn hown3)
  have H23 := Lib.hid (H2.out.below hB3 (Nat.le_refl _))
  obtain ⟨p3, c3, rfl, -⟩ := id HN3.out
  clear hb3 hown3 hB2
  go_wp2_with fail
  refine (join_any _ [enc X, bs] _ (IsLists.lit _ [.slice p3 (enc X).length c3, .slice p2 bs.length c2] [enc X, bs] _ _ _ _ (by simp) rfl rfl ?_) (by simp) (by simp [sumLen]; omega)).mono ?_
  · intro j hj
    match j, hj with
    | 0, _ => exact HN3.out
    | 1, _ => exact H23.out
  rintro en w4 ⟨u4, rfl, hown4, hb4⟩
  have hB4 := (hB3.alloc hB3.size _).trans (hb4.mono (by have := hB3.size; simp; omega))
  rw [show [enc X, bs].flatten = enc X ++ bs by simp] at hown4
  have hbytes : ∀ x ∈ enc X ++ bs, 0 ≤ x ∧ x ≤ 255 := by
    intro x hx
    rcases List.mem_append.1 hx with hx | hx
    · exact enc_bytes X x1 x hx
    · exact HB2.out x hx
  have hLl : (enc X ++ bs).length ≤ 100000 := by simp; omega
  obtain ⟨L, hL⟩ : ∃ L, enc X ++ bs = L := ⟨_, rfl⟩
  rw [hL] at hown4 hbytes hLl
  have HL := Lib.hid hL
  have HBY := Lib.hid hbytes
  clear hbytes hL
  have HN4 := Lib.hid (IsNums.ofOwn hown4)
  obtain ⟨p4, c4, rfl, -⟩ := id HN4.out
  clear hb4 hown4 hB3 HN3 H23
  go_wp2_with fail
  refine (new_any _ L _ HN4.out HBY.out hLl).mono ?_
  rintro en w5 ⟨B, u5, rfl, hBs, hr, hb5⟩
  have hB5 : Below w.heap.size w w5 := hB4.trans (hb5.mono hB4.size)
  have hBz : w.heap.size ≤ B := by have := hB4.size; omega
  rw [← HL.out] at hr
  clear hb5 hB4 HN4 hBs HBY
  by_cases hX : X = 0
  · subst hX
    go_wp2_with fail
    refine (num_any B _ _ _ 0 _ hr (by omega)).mono ?_
    rintro en w6 ⟨rfl, v6, hr6, ho6⟩
    rw [numR_ok 0 (by omega) (by omega) bs 0 (by omega)] at hr6 ⊢
    have hB6 := hB5.trans (ho6.below hBz hB5.size)
    clear hr hB5 ho6
    go_wp2_with (first | (go_at_call 20; ((with_reducible refine (err_any B _ _ _ _ hr6).mono ?_); rintro en w' ⟨rfl, rfl⟩)) | (go_at_call 21; ((with_reducible refine (left_any B _ _ _ _ hr6).mono ?_); rintro en w' ⟨rfl, rfl⟩)))
    go_ret
    exact ⟨rfl, hB6⟩
  · have hXq : (X == 0) = false := by rw [beq_eq_false_iff_ne]; exact hX
    have hX1 : 1 ≤ X := by omega
    clear hX
    have hno := numR_long X x0 x1 bs (X - 1) (by omega)
    go_wp2_with fail
    refine (num_any B _ _ _ (X - 1) _ hr (by omega)).mono ?_
    rintro en w6 ⟨rfl, v6, hr6, ho6⟩
    rw [hno] at hr6 ⊢
    have hB6 := hB5.trans (ho6.below hBz hB5.size)
    clear hr hB5 ho6 hno
    go_wp2_with (first | (go_at_call 20; ((with_reducible refine (err_any B _ _ _ _ hr6).mono ?_); rintro en w' ⟨rfl, rfl⟩)) | (go_at_call 21; ((with_reducible refine (left_any B _ _ _ _ hr6).mono ?_); rintro en w' ⟨rfl, rfl⟩)))
    refine (num_any B _ _ _ 18446744073709551615 _ hr6 (by omega)).mono ?_
    rintro en w7 ⟨rfl, v7, hr7, ho7⟩
    rw [numR_bad _ _ _ (by omega)] at hr7 ⊢
    have hB7 := hB6.trans (ho7.below hBz hB6.size)
    clear hr6 hB6 ho7
    go_wp2_with fail
    refine (rlump_any B _ _ _ 9 _ hr7 (by omega) (by omega) (by simp)).mono ?_
    rintro en w8 ⟨u8, rfl, hown8, v8, hr8, ho8⟩
    rw [lumpR_bad _ _ _ (by omega)] at hown8 hr8
    have hB8 := hB7.trans (ho8.below hBz hB7.size)
    obtain ⟨p8, c8, rfl, -⟩ := id (IsNums.ofOwn hown8)
    clear hr7 hB7 ho8 hown8
    have H28 := Lib.hid ((H2.out.below hB8 (Nat.le_refl _)).alloc (.cells #[.int .u8 1] 5))
    have hz8 : w8.heap.size ≤ (w8.alloc (.cells #[.int .u8 1] 5)).heap.size := by simp
    have hown9 : (w8.alloc (.cells #[.int .u8 1] 5)).ownsRow w8.heap.size 5 1 (.slice (some ⟨w8.heap.size, 0, none⟩) 1 1) 1 [.int .u8 1] := World.ownsRow_lit w8 #[.int .u8 1] 1 (Nat.le_refl _) (by unfold maxLen; omega) rfl
    have HO9 := Lib.hid hown9
    have HZ8 := Lib.hid hz8
    clear hown9 hz8
    go_wp2_with (at_builtin; refine wpList_appN rfl _ _ 22 rfl w8.heap.size 5 .u8 1 Try.underlying22 info_u8 (by omega) _ 1 _ rfl HO9.out _ bs rfl H28.out (by omega) HZ8.out ?_; intro v9 w9 hown10 hb10)
    have hB9 := (hB8.alloc hB8.size (.cells #[.int .u8 1] 5)).trans (hb10.mono hB8.size)
    have hb89 : Below w8.heap.size w8 w9 := ((Below.refl _ w8).alloc (Nat.le_refl _) _).trans hb10
    have hr9 := hr8.later hb89
    have hN9 : IsNums .u8 w9 v9 (1 :: bs) := IsNums.ofOwn (B := w8.heap.size) (e := 5) (n := 1 + bs.length) (by simpa using hown10)
    obtain ⟨p9, c9, rfl, -⟩ := id hN9
    have HN9 := Lib.hid hN9
    have HR9 := Lib.hid hr9
    clear hown10 hb10 hb89 hr8 hr9 hN9 hB8
    go_wp2_with fail
    refine (lump_any _ (1 :: bs) _ HN9.out (by simp; omega)).mono ?_
    rintro en w10 ⟨u10, rfl, hown11, hb11⟩
    have hB10 := hB9.trans (hb11.mono hB9.size)
    have hr10 := HR9.out.later hb11
    rw [enc_small _ (by omega) (by simp; omega)] at hown11
    obtain ⟨M, hM⟩ : ∃ M : List Int, [(((1 :: bs).length : Nat) : Int)] ++ (1 :: bs) = M := ⟨_, rfl⟩
    have hMl : M.length = bs.length + 2 := by rw [← hM]; simp
    have hMb : ∀ x ∈ M, 0 ≤ x ∧ x ≤ 255 := by
      intro x hx
      rw [← hM] at hx
      simp only [List.cons_append, List.nil_append, List.mem_cons, List.length_cons] at hx
      rcases hx with rfl | rfl | hx
      · omega
      · omega
      · exact HB2.out x hx
    rw [hM] at hown11
    have hlt := NumsLt.ofOwn hown11
    obtain ⟨p10, c10, rfl, hc10, -⟩ := id hlt
    rw [hMl] at hc10
    have htk := (hlt.take (1 + bs.length) (by omega)).nums (Nat.le_refl _)
    rw [hMl]
    have htl : (M.take (1 + bs.length)).length ≤ 100000 := by simp; omega
    have HTK := Lib.hid htk
    have HMB := Lib.hid hMb
    have HM := Lib.hid hM
    have HR10 := Lib.hid hr10
    clear hown11 hb11 hlt htk hMb hM hr10 hMl HR9 HN9 hB9
    go_wp2_with fail
    refine (new_any _ (M.take (1 + bs.length)) _ HTK.out (fun x hx => HMB.out x (List.mem_of_mem_take hx)) htl).mono ?_
    rintro en w11 ⟨B2, u11, rfl, hBs2, hq, hb12⟩
    have hB11 := hB10.trans (hb12.mono hB10.size)
    have hBB := HR10.out.lt
    have hr11 := HR10.out.later hb12
    have hTe : M.take (1 + bs.length) = enc (bs.length + 1) ++ (1 :: bs).take bs.length := by
      rw [← HM.out, enc_small _ (by omega) (by omega), Nat.add_comm 1 bs.length]
      simp
    rw [hTe] at hq
    have hel2 := (enc_len ((bs.length : Int) + 1)).1
    have HR11 := Lib.hid hr11
    clear hb12 HR10 hB10 hTe HTK HMB HM hr11
    go_wp2_with fail
    refine (rlump_any B2 _ _ _ 99 _ hq (by omega) (by omega) (by simp; omega)).mono ?_
    rintro en w12 ⟨u12, rfl, hown12, v12, hq2, ho12⟩
    rw [lumpR_short _ (by omega) (by omega) _ _ (by omega) (by simp; omega)] at hown12 hq2
    have hB12 := hB11.trans (ho12.below (by have := hB11.size; have := HR11.out.lt; omega) hB11.size)
    have hr12 := HR11.out.kept ho12 (by omega)
    obtain ⟨p12, c12, rfl, -⟩ := id (IsNums.ofOwn hown12)
    clear hown12 hq ho12 HR11 hB11
    go_wp2_with (go_at_call 20; (first | ((with_reducible refine (err_any B2 _ _ _ _ hq2).mono ?_); rintro en w' ⟨rfl, rfl⟩) | ((with_reducible refine (err_any B _ _ _ _ hr12).mono ?_); rintro en w' ⟨rfl, rfl⟩)))
    go_ret
    exact ⟨rfl, hB12⟩

end Go.Proofs.Ytjonkblingcbmaa.K
