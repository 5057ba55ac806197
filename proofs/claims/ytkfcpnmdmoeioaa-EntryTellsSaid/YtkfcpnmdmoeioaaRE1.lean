/- mementoref6: time, EntryRight, SameEntry. -/
import Derived.Test.YtkfcpnmdmoeioaaEntry4
import Derived.Test.YtkfcpnmdmoeioaaPackGR2
namespace Go.Proofs.Ytkfcpnmdmoeioaa.K
open Go.ChangeShapes Go.WideShapes Go.ChangeAt Go.RowKit
set_option linter.unusedVariables false


theorem rtime_any (n : Int) (w : World) :
    Calls Try.prog 35 #[.int .i64 n] w fun e w' => e = .returned (.bool (timeOk n 0)) ∧ w' = w := by
  by_cases h1 : 0 ≤ n
  · by_cases h2 : n ≤ 1099511627776
    · go_enter Try.func35, Try.ntmps35
      go_wp2
      go_ret
      exact ⟨ret_bool (by simp [timeOk]; omega), rfl⟩
    · go_enter Try.func35, Try.ntmps35
      go_wp2
      go_ret
      exact ⟨ret_bool (by simp [timeOk]; omega), rfl⟩
  · go_enter Try.func35, Try.ntmps35
    go_wp2
    go_ret
    exact ⟨ret_bool (by simp [timeOk]; omega), rfl⟩

set_option maxRecDepth 100000 in
set_option maxHeartbeats 1000000 in
theorem rentRight_any (i t k : Int) (v : Value) (d : List Int) (w : World) (hv : IsNums .u8 w v d) :
    Calls Try.prog 12 #[entV i t k v] w fun e w' => e = .returned (.bool (entOk i t k d)) ∧ Below w.heap.size w w' := by
  obtain ⟨a, c, rfl, -⟩ := id hv
  obtain ⟨n, hn⟩ : ∃ n, d.length = n := ⟨_, rfl⟩
  rw [hn] at hv ⊢
  have hb := (Below.refl w.heap.size w).alloc (Nat.le_refl _) (.cells #[.int .i64 i, .int .i64 t, .int .i64 k, .slice a n c] 24)
  have hx := Blk.alloc w 24 #[.int .i64 i, .int .i64 t, .int .i64 k, .slice a n c]
  have hvn := hv.alloc (.cells #[.int .i64 i, .int .i64 t, .int .i64 k, .slice a n c] 24)
  obtain ⟨w0, hw0⟩ : ∃ x, w.alloc (.cells #[.int .i64 i, .int .i64 t, .int .i64 k, .slice a n c] 24) = x := ⟨_, rfl⟩
  rw [hw0] at hb hx hvn
  have x0 := hx.cell 0
  have x1 := hx.cell 1
  have x2 := hx.cell 2
  have x3 := hx.cell 3
  have B := Lib.hid hb
  have HVN := Lib.hid hvn
  have HN := Lib.hid hn
  unfold entV
  have hkind : entOk i t k d = (timeOk i 1 && timeOk t 0 && dataOk k d) := rfl
  have HK := Lib.hid hkind
  clear hb hx hvn hv hn hkind
  by_cases i1 : i < 1
  · have hz : entOk i t k d = false := by rw [HK.out, show timeOk i 1 = false from decide_eq_false (by omega)]; rfl
    rw [hz]
    clear hz
    go_enter Try.func12, Try.ntmps12
    go_wp2
    go_ret
    exact ⟨rfl, B.out⟩
  · have hti : timeOk i 1 = timeOk i 0 := by unfold timeOk; exact decide_eq_decide.2 ⟨fun h => by omega, fun h => by omega⟩
    cases h1 : timeOk i 0 with
    | false =>
      have H1 := Lib.hid h1
      have hz : entOk i t k d = false := by rw [HK.out, hti, h1]; rfl
      rw [hz]
      clear hz h1 hti
      go_enter Try.func12, Try.ntmps12
      go_wp2_with fail
      refine (rtime_any i _).mono ?_
      rintro e w1 ⟨rfl, rfl⟩
      rw [H1.out]
      go_wp2
      go_ret
      exact ⟨rfl, B.out⟩
    | true =>
      have H1 := Lib.hid h1
      cases h2 : timeOk t 0 with
      | false =>
        have H2 := Lib.hid h2
        have hz : entOk i t k d = false := by rw [HK.out, hti, h1, h2]; rfl
        rw [hz]
        clear hz h1 h2 hti
        go_enter Try.func12, Try.ntmps12
        go_wp2_with fail
        refine (rtime_any i _).mono ?_
        rintro e w1 ⟨rfl, rfl⟩
        rw [H1.out]
        go_wp2_with fail
        refine (rtime_any t _).mono ?_
        rintro e w1 ⟨rfl, rfl⟩
        rw [H2.out]
        go_wp2
        go_ret
        exact ⟨rfl, B.out⟩
      | true =>
        have H2 := Lib.hid h2
        have hz : entOk i t k d = dataOk k d := by rw [HK.out, hti, h1, h2]; rfl
        rw [hz]
        clear hz h1 h2 hti
        by_cases k0 : k = 0
        · subst k0
          have hz : dataOk 0 d = decide (n = 0) := by unfold dataOk; rw [if_pos rfl, HN.out]
          rw [hz]
          clear hz
          by_cases n0 : n = 0
          · subst n0
            go_enter Try.func12, Try.ntmps12
            go_wp2_with fail
            refine (rtime_any i _).mono ?_
            rintro e w1 ⟨rfl, rfl⟩
            rw [H1.out]
            go_wp2_with fail
            refine (rtime_any t _).mono ?_
            rintro e w1 ⟨rfl, rfl⟩
            rw [H2.out]
            go_wp2
            go_ret
            exact ⟨rfl, B.out⟩
          · have nI : ¬ (n : Int) = 0 := by omega
            go_enter Try.func12, Try.ntmps12
            go_wp2_with fail
            refine (rtime_any i _).mono ?_
            rintro e w1 ⟨rfl, rfl⟩
            rw [H1.out]
            go_wp2_with fail
            refine (rtime_any t _).mono ?_
            rintro e w1 ⟨rfl, rfl⟩
            rw [H2.out]
            go_wp2
            go_ret
            exact ⟨ret_bool (by first | rfl | exact (decide_eq_false (by omega)).symm | exact (decide_eq_true (by omega)).symm | (rw [Bool.eq_iff_iff]; simp only [decide_eq_true_eq, Bool.and_eq_true]; omega) | (rw [Bool.eq_iff_iff]; simp; omega) | (rw [Bool.eq_iff_iff]; simp only [beq_iff_eq, decide_eq_true_eq]; omega) | done), B.out⟩
        · by_cases k1 : k = 1
          · subst k1
            have hz : dataOk 1 d = decide (n ≤ 32767) := by unfold dataOk; rw [if_neg (by decide), if_pos rfl, HN.out]
            rw [hz]
            clear hz k0
            by_cases n0 : n ≤ 32767
            · have nI : (n : Int) ≤ 32767 := by omega
              go_enter Try.func12, Try.ntmps12
              go_wp2_with fail
              refine (rtime_any i _).mono ?_
              rintro e w1 ⟨rfl, rfl⟩
              rw [H1.out]
              go_wp2_with fail
              refine (rtime_any t _).mono ?_
              rintro e w1 ⟨rfl, rfl⟩
              rw [H2.out]
              go_wp2
              go_ret
              exact ⟨ret_bool (by first | rfl | exact (decide_eq_false (by omega)).symm | exact (decide_eq_true (by omega)).symm | (rw [Bool.eq_iff_iff]; simp only [decide_eq_true_eq, Bool.and_eq_true]; omega) | (rw [Bool.eq_iff_iff]; simp; omega) | (rw [Bool.eq_iff_iff]; simp only [beq_iff_eq, decide_eq_true_eq]; omega) | done), B.out⟩
            · have nI : ¬ (n : Int) ≤ 32767 := by omega
              go_enter Try.func12, Try.ntmps12
              go_wp2_with fail
              refine (rtime_any i _).mono ?_
              rintro e w1 ⟨rfl, rfl⟩
              rw [H1.out]
              go_wp2_with fail
              refine (rtime_any t _).mono ?_
              rintro e w1 ⟨rfl, rfl⟩
              rw [H2.out]
              go_wp2
              go_ret
              exact ⟨ret_bool (by first | rfl | exact (decide_eq_false (by omega)).symm | exact (decide_eq_true (by omega)).symm | (rw [Bool.eq_iff_iff]; simp only [decide_eq_true_eq, Bool.and_eq_true]; omega) | (rw [Bool.eq_iff_iff]; simp; omega) | (rw [Bool.eq_iff_iff]; simp only [beq_iff_eq, decide_eq_true_eq]; omega) | done), B.out⟩
          · by_cases k2 : k = 2
            · subst k2
              have hz : dataOk 2 d = decide (n = 2 ∧ d.getD 0 0 < 7 ∧ d.getD 1 0 ≤ 1) := by unfold dataOk; rw [if_neg (by decide), if_neg (by decide), if_pos rfl, HN.out]
              rw [hz]
              clear hz k0 k1
              by_cases n0 : n = 2
              · subst n0
                obtain ⟨a', c', e1, hd | ⟨b, off, e2, hlt, hc⟩⟩ := HVN.out
                · have := HN.out; omega
                injection e1 with e1 e3 e4
                subst e1
                subst e2
                clear e3 e4
                have c0 := hc 0 (by have := HN.out; omega)
                have c1 := hc 1 (by have := HN.out; omega)
                obtain ⟨x, hx⟩ : ∃ x, d.getD 0 0 = x := ⟨_, rfl⟩
                obtain ⟨y, hy⟩ : ∃ x, d.getD 1 0 = x := ⟨_, rfl⟩
                rw [hx] at c0 ⊢
                rw [hy] at c1 ⊢
                rw [Nat.add_zero] at c0
                clear hc hx hy
                by_cases x0' : x < 7
                · by_cases y0 : y < 2
                  · go_enter Try.func12, Try.ntmps12
                    go_wp2_with fail
                    refine (rtime_any i _).mono ?_
                    rintro e w1 ⟨rfl, rfl⟩
                    rw [H1.out]
                    go_wp2_with fail
                    refine (rtime_any t _).mono ?_
                    rintro e w1 ⟨rfl, rfl⟩
                    rw [H2.out]
                    go_wp2
                    go_ret
                    exact ⟨ret_bool (by first | rfl | exact (decide_eq_false (by omega)).symm | exact (decide_eq_true (by omega)).symm | (rw [Bool.eq_iff_iff]; simp only [decide_eq_true_eq, Bool.and_eq_true]; omega) | (rw [Bool.eq_iff_iff]; simp; omega) | (rw [Bool.eq_iff_iff]; simp only [beq_iff_eq, decide_eq_true_eq]; omega) | done), B.out⟩
                  · go_enter Try.func12, Try.ntmps12
                    go_wp2_with fail
                    refine (rtime_any i _).mono ?_
                    rintro e w1 ⟨rfl, rfl⟩
                    rw [H1.out]
                    go_wp2_with fail
                    refine (rtime_any t _).mono ?_
                    rintro e w1 ⟨rfl, rfl⟩
                    rw [H2.out]
                    go_wp2
                    go_ret
                    exact ⟨ret_bool (by first | rfl | exact (decide_eq_false (by omega)).symm | exact (decide_eq_true (by omega)).symm | (rw [Bool.eq_iff_iff]; simp only [decide_eq_true_eq, Bool.and_eq_true]; omega) | (rw [Bool.eq_iff_iff]; simp; omega) | (rw [Bool.eq_iff_iff]; simp only [beq_iff_eq, decide_eq_true_eq]; omega) | done), B.out⟩
                · go_enter Try.func12, Try.ntmps12
                  go_wp2_with fail
                  refine (rtime_any i _).mono ?_
                  rintro e w1 ⟨rfl, rfl⟩
                  rw [H1.out]
                  go_wp2_with fail
                  refine (rtime_any t _).mono ?_
                  rintro e w1 ⟨rfl, rfl⟩
                  rw [H2.out]
                  go_wp2
                  go_ret
                  exact ⟨ret_bool (by first | rfl | exact (decide_eq_false (by omega)).symm | exact (decide_eq_true (by omega)).symm | (rw [Bool.eq_iff_iff]; simp only [decide_eq_true_eq, Bool.and_eq_true]; omega) | (rw [Bool.eq_iff_iff]; simp; omega) | (rw [Bool.eq_iff_iff]; simp only [beq_iff_eq, decide_eq_true_eq]; omega) | done), B.out⟩
              · have nI : ¬ (n : Int) = 2 := by omega
                go_enter Try.func12, Try.ntmps12
                go_wp2_with fail
                refine (rtime_any i _).mono ?_
                rintro e w1 ⟨rfl, rfl⟩
                rw [H1.out]
                go_wp2_with fail
                refine (rtime_any t _).mono ?_
                rintro e w1 ⟨rfl, rfl⟩
                rw [H2.out]
                go_wp2
                go_ret
                exact ⟨ret_bool (by first | rfl | exact (decide_eq_false (by omega)).symm | exact (decide_eq_true (by omega)).symm | (rw [Bool.eq_iff_iff]; simp only [decide_eq_true_eq, Bool.and_eq_true]; omega) | (rw [Bool.eq_iff_iff]; simp; omega) | (rw [Bool.eq_iff_iff]; simp only [beq_iff_eq, decide_eq_true_eq]; omega) | done), B.out⟩
            · have hz : dataOk k d = false := by unfold dataOk; rw [if_neg k0, if_neg k1, if_neg k2]
              rw [hz]
              clear hz
              go_enter Try.func12, Try.ntmps12
              go_wp2_with fail
              refine (rtime_any i _).mono ?_
              rintro e w1 ⟨rfl, rfl⟩
              rw [H1.out]
              go_wp2_with fail
              refine (rtime_any t _).mono ?_
              rintro e w1 ⟨rfl, rfl⟩
              rw [H2.out]
              go_wp2
              go_ret
              exact ⟨rfl, B.out⟩

set_option maxRecDepth 100000 in
theorem rentSame_any (i t k i' t' k' : Int) (v v' : Value) (d d' : List Int) (w : World) (hv : IsNums .u8 w v d) (hv' : IsNums .u8 w v' d') (hd : ∀ x ∈ d, 0 ≤ x ∧ x ≤ 255) (hd' : ∀ x ∈ d', 0 ≤ x ∧ x ≤ 255) :
    Calls Try.prog 14 #[entV i t k v, entV i' t' k' v'] w fun e w' => e = .returned (.bool (decide ((i, t, k, d) = (i', t', k', d')))) ∧ Below w.heap.size w w' := by
  obtain ⟨a, c, rfl, -⟩ := id hv
  obtain ⟨a', c', rfl, -⟩ := id hv'
  obtain ⟨n, hn⟩ : ∃ n, d.length = n := ⟨_, rfl⟩
  obtain ⟨n', hn'⟩ : ∃ n, d'.length = n := ⟨_, rfl⟩
  rw [hn] at hv ⊢
  rw [hn'] at hv' ⊢
  have hb := ((Below.refl w.heap.size w).alloc (Nat.le_refl _) (.cells #[.int .i64 i, .int .i64 t, .int .i64 k, .slice a n c] 24))
  have hx := Blk.alloc w 24 #[.int .i64 i, .int .i64 t, .int .i64 k, .slice a n c]
  obtain ⟨w1, hw1⟩ : ∃ x, w.alloc (.cells #[.int .i64 i, .int .i64 t, .int .i64 k, .slice a n c] 24) = x := ⟨_, rfl⟩
  rw [hw1] at hb hx
  have hb2 := hb.alloc hb.size (.cells #[.int .i64 i', .int .i64 t', .int .i64 k', .slice a' n' c'] 24)
  have hy := Blk.alloc w1 24 #[.int .i64 i', .int .i64 t', .int .i64 k', .slice a' n' c']
  have hx2 := hx.below ((Below.refl w1.heap.size w1).alloc (Nat.le_refl _) (.cells #[.int .i64 i', .int .i64 t', .int .i64 k', .slice a' n' c'] 24)) hx.lt
  obtain ⟨w2, hw2⟩ : ∃ x, w1.alloc (.cells #[.int .i64 i', .int .i64 t', .int .i64 k', .slice a' n' c'] 24) = x := ⟨_, rfl⟩
  rw [hw2] at hb2 hy hx2
  have x0 := hx2.cell 0
  have x1 := hx2.cell 1
  have x2 := hx2.cell 2
  have x3 := hx2.cell 3
  have y0 := hy.cell 0
  have y1 := hy.cell 1
  have y2 := hy.cell 2
  have y3 := hy.cell 3
  have B := Lib.hid hb2
  have V := hv.below hb2 (Nat.le_refl _)
  have V' := hv'.below hb2 (Nat.le_refl _)
  have h1 := conv_str (P := Try.prog) V 22 5 Try.underlying22 Try.underlying5 9 Try.underlying9
  have h2 := conv_str (P := Try.prog) V' 22 5 Try.underlying22 Try.underlying5 9 Try.underlying9
  have HD := Lib.hid (str_beq hd hd')
  unfold entV
  clear hv hv' hb hx hb2 hy hx2 hd hd' hn hn' V V'
  by_cases ei : i = i'
  · subst ei
    by_cases et : t = t'
    · subst et
      by_cases ek : k = k'
      · subst ek
        go_enter Try.func14, Try.ntmps14
        go_wp2
        go_ret
        exact ⟨ret_bool (by first | exact HD.out | exact HD.out.trans (decide_eq_decide.2 ⟨fun h => by rw [h], fun h => by injection h with h1 h2; injection h2 with h2 h3; injection h3 with h3 h4⟩)), B.out⟩
      · have ek' : (k == k') = false := by rw [beq_eq_false_iff_ne]; exact ek
        go_enter Try.func14, Try.ntmps14
        go_wp2
        go_ret
        exact ⟨ret_bool (by first | rfl | (symm; rw [decide_eq_false_iff_not]; intro h; injection h with h1 h2; injection h2 with h2 h3; injection h3 with h3 h4; exact ek h3)), B.out⟩
    · have et' : (t == t') = false := by rw [beq_eq_false_iff_ne]; exact et
      go_enter Try.func14, Try.ntmps14
      go_wp2
      go_ret
      exact ⟨ret_bool (by first | rfl | (symm; rw [decide_eq_false_iff_not]; intro h; injection h with h1 h2; injection h2 with h2 h3; exact et h2)), B.out⟩
  · have ei' : (i == i') = false := by rw [beq_eq_false_iff_ne]; exact ei
    go_enter Try.func14, Try.ntmps14
    go_wp2
    go_ret
    exact ⟨ret_bool (by first | rfl | (symm; rw [decide_eq_false_iff_not]; intro h; injection h with h1 h2; exact ei h1)), B.out⟩
end Go.Proofs.Ytkfcpnmdmoeioaa.K
