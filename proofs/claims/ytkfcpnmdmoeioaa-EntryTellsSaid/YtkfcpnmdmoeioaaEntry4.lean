/- conf.Right; entry.BaseRight, Same, SameBase. -/
import Derived.Test.YtkfcpnmdmoeioaaEntry3
namespace Go.Proofs.Ytkfcpnmdmoeioaa.K
open Go.ChangeShapes Go.WideShapes Go.ChangeAt Go.RowKit
set_option linter.unusedVariables false

/-- May there be a node n? -/
def okB (n : Int) : Bool := decide (0 ≤ n ∧ n < 7)
theorem maybe_any (n : Int) (w : World) : Calls Try.prog 51 #[.int .i64 n] w fun e w' => e = .returned (.bool (okB n)) ∧ w = w' := by
  by_cases h : 0 ≤ n
  · by_cases h7 : n < 7
    · go_enter Try.func51, Try.ntmps51
      go_wp2
      go_ret
      exact ⟨ret_bool (by simp [okB, h, h7]), rfl⟩
    · go_enter Try.func51, Try.ntmps51
      go_wp2
      go_ret
      exact ⟨ret_bool (by simp [okB, h7]), rfl⟩
  · go_enter Try.func51, Try.ntmps51
    go_wp2
    go_ret
    exact ⟨ret_bool (by simp [okB]; omega), rfl⟩
def rightB (l : List Int) : Bool := decide (0 < l.length ∧ ∀ j, j < l.length → okB (l.getD j 0) = true ∧ (0 < j → l.getD (j - 1) 0 < l.getD j 0))
theorem right_no (l : List Int) (k : Nat) (h : k < l.length) (hn : ¬ (okB (l.getD k 0) = true ∧ (0 < k → l.getD (k - 1) 0 < l.getD k 0))) : rightB l = false := by
  unfold rightB
  rw [decide_eq_false_iff_not]
  exact fun h2 => hn (h2.2 k h)
set_option maxRecDepth 100000 in
set_option maxHeartbeats 2000000 in
theorem right_any (v : Value) (l : List Int) (w : World) (hv : IsNums .i64 w v l) (hl : l.length ≤ 900) :
    Calls Try.prog 41 #[v] w fun e w' => e = .returned (.bool (rightB l)) ∧ w = w' := by
  obtain ⟨p, c, rfl, h⟩ := hv
  have H := Lib.hid h
  clear h
  go_enter Try.func41, Try.ntmps41
  go_wp2
  go_loop [7] (fun i => ∃ k : Nat, k ≤ l.length ∧ i = .int .i64 k ∧ ∀ j, j < k → okB (l.getD j 0) = true ∧ (0 < j → l.getD (j - 1) 0 < l.getD j 0)) (fun i => l.length - (intOf i).toNat)
  case atStart => exact ⟨0, Nat.zero_le _, rfl, fun j hj => absurd hj (by omega)⟩
  case round =>
    obtain ⟨k, hk, rfl, hall⟩ := hrel
    have HA := Lib.hid hall
    clear hall
    by_cases hlt : k < l.length
    · obtain h0 | ⟨b, off, rfl, hblk, hcell⟩ := H.out
      · omega
      have hc := hcell k hlt
      have hcp := hcell (k - 1) (by omega)
      have hno := right_no l k hlt
      have hstep : (okB (l.getD k 0) = true ∧ (0 < k → l.getD (k - 1) 0 < l.getD k 0)) → ∀ j, j < k + 1 → okB (l.getD j 0) = true ∧ (0 < j → l.getD (j - 1) 0 < l.getD j 0) := by
        intro h j hj
        by_cases e : j = k
        · subst e; exact h
        · exact HA.out j (by omega)
      have HST := Lib.hid hstep
      clear hstep
      obtain ⟨x, hx⟩ : ∃ x, l.getD k 0 = x := ⟨_, rfl⟩
      obtain ⟨y, hy⟩ : ∃ y, l.getD (k - 1) 0 = y := ⟨_, rfl⟩
      rw [hx] at hc hno
      rw [hy] at hcp hno
      have HX := Lib.hid hx
      have HY := Lib.hid hy
      have HN := Lib.hid hno
      clear hcell hx hy hno
      cases hok : okB x with
      | false =>
        have hr : rightB l = false := HN.out (fun h => by rw [hok] at h; exact absurd h.1 (by simp))
        have HR := Lib.hid hr
        clear hr hcp
        go_wp2_with (go_at_call 51; ((with_reducible refine (maybe_any _ _).mono ?_); rintro e w' ⟨rfl, rfl⟩))
        go_ret
        exact ⟨ret_bool HR.out.symm, rfl⟩
      | true =>
        by_cases h0 : k ≤ 0
        · clear hcp
          go_wp2_with (go_at_call 51; ((with_reducible refine (maybe_any _ _).mono ?_); rintro e w' ⟨rfl, rfl⟩))
          go_round
          case rel => exact ⟨k + 1, by omega, by go_num, HST.out ⟨by rw [HX.out]; exact hok, fun h => absurd h (by omega)⟩⟩
          case measure => simp [intOf]; omega
        · obtain ⟨m, rfl⟩ : ∃ m, k = m + 1 := ⟨k - 1, by omega⟩
          simp only [Nat.add_sub_cancel] at hcp HY HN HST
          have ei : ((m + 1 : Nat) : Int) - 1 = m := by omega
          by_cases hxy : x ≤ y
          · have hr : rightB l = false := HN.out (fun h => by have := h.2 (by omega); omega)
            have HR := Lib.hid hr
            clear hr
            go_wp2_with (go_at_call 51; ((with_reducible refine (maybe_any _ _).mono ?_); rintro e w' ⟨rfl, rfl⟩))
            go_ret
            exact ⟨ret_bool HR.out.symm, rfl⟩
          · go_wp2_with (go_at_call 51; ((with_reducible refine (maybe_any _ _).mono ?_); rintro e w' ⟨rfl, rfl⟩))
            go_round
            case rel => exact ⟨m + 1 + 1, by omega, by go_num, HST.out ⟨by rw [HX.out]; exact hok, fun h => by rw [HX.out]; show l.getD m 0 < x; rw [HY.out]; omega⟩⟩
            case measure => simp [intOf]; omega
    · obtain rfl : k = l.length := by omega
      go_wp2
      go_ret
      refine ⟨ret_bool ?_, rfl⟩
      unfold rightB
      rw [Bool.eq_iff_iff]
      simp only [decide_eq_true_eq]
      exact ⟨fun h => ⟨by omega, HA.out⟩, fun h => by omega⟩

/-- A base as a value. -/
def baseV (i t : Int) (vc vd : Value) : Value := .agg #[.int .i64 i, .int .i64 t, vc, vd]
def baseOk (i t : Int) (cf : List Int) (d : List Int) : Bool := timeOk i 0 && timeOk t 0 && rightB cf && decide (d.length ≤ 32767)
set_option maxRecDepth 100000 in
theorem baseRight_any (i t : Int) (vc vd : Value) (cf d : List Int) (w : World) (hc : IsNums .i64 w vc cf) (hv : IsNums .u8 w vd d) (hl : cf.length ≤ 900) :
    Calls Try.prog 21 #[baseV i t vc vd] w fun e w' => e = .returned (.bool (baseOk i t cf d)) ∧ Below w.heap.size w w' := by
  have hb := (Below.refl w.heap.size w).alloc (Nat.le_refl _) (.cells #[.int .i64 i, .int .i64 t, vc, vd] 27)
  have hx := Blk.alloc w 27 #[.int .i64 i, .int .i64 t, vc, vd]
  have hn := hc.alloc (.cells #[.int .i64 i, .int .i64 t, vc, vd] 27)
  obtain ⟨ac, cc, rfl, -⟩ := id hc
  obtain ⟨ad, cd, rfl, -⟩ := id hv
  obtain ⟨n, hnl⟩ : ∃ n, d.length = n := ⟨_, rfl⟩
  rw [hnl] at hb hx hn ⊢
  have x0 := hx.cell 0
  have x1 := hx.cell 1
  have x2 := hx.cell 2
  have x3 := hx.cell 3
  have B := Lib.hid hb
  have HNN := Lib.hid hn
  unfold baseV
  have hz : baseOk i t cf d = (timeOk i 0 && timeOk t 0 && rightB cf && decide (n ≤ 32767)) := by unfold baseOk; rw [hnl]
  rw [hz]
  clear hz hb hx hn hc hv hnl
  cases h1 : timeOk i 0 with
  | false =>
    have H1 := Lib.hid h1
    clear h1
    go_enter Try.func21, Try.ntmps21
    go_wp2_with fail
    refine (time_any i 0 _).mono ?_
    rintro e w1 ⟨rfl, rfl⟩
    rw [H1.out]
    go_wp2
    go_ret
    exact ⟨rfl, B.out⟩
  | true =>
    have H1 := Lib.hid h1
    clear h1
    cases h2 : timeOk t 0 with
    | false =>
      have H2 := Lib.hid h2
      clear h2
      go_enter Try.func21, Try.ntmps21
      go_wp2_with fail
      refine (time_any i 0 _).mono ?_
      rintro e w1 ⟨rfl, rfl⟩
      rw [H1.out]
      go_wp2_with fail
      refine (time_any t 0 _).mono ?_
      rintro e w1 ⟨rfl, rfl⟩
      rw [H2.out]
      go_wp2
      go_ret
      exact ⟨rfl, B.out⟩
    | true =>
      have H2 := Lib.hid h2
      clear h2
      cases h3 : rightB cf with
      | false =>
        have H3 := Lib.hid h3
        clear h3
        go_enter Try.func21, Try.ntmps21
        go_wp2_with fail
        refine (time_any i 0 _).mono ?_
        rintro e w1 ⟨rfl, rfl⟩
        rw [H1.out]
        go_wp2_with fail
        refine (time_any t 0 _).mono ?_
        rintro e w1 ⟨rfl, rfl⟩
        rw [H2.out]
        go_wp2_with fail
        refine (right_any _ cf _ HNN.out hl).mono ?_
        rintro e w1 ⟨rfl, rfl⟩
        rw [H3.out]
        go_wp2
        go_ret
        exact ⟨rfl, B.out⟩
      | true =>
        have H3 := Lib.hid h3
        clear h3
        by_cases hn : n ≤ 32767
        · have hnI : (n : Int) ≤ 32767 := by omega
          go_enter Try.func21, Try.ntmps21
          go_wp2_with fail
          refine (time_any i 0 _).mono ?_
          rintro e w1 ⟨rfl, rfl⟩
          rw [H1.out]
          go_wp2_with fail
          refine (time_any t 0 _).mono ?_
          rintro e w1 ⟨rfl, rfl⟩
          rw [H2.out]
          go_wp2_with fail
          refine (right_any _ cf _ HNN.out hl).mono ?_
          rintro e w1 ⟨rfl, rfl⟩
          rw [H3.out]
          go_wp2
          go_ret
          exact ⟨ret_bool (by simp; exact hn), B.out⟩
        · have hnI : ¬ (n : Int) ≤ 32767 := by omega
          go_enter Try.func21, Try.ntmps21
          go_wp2_with fail
          refine (time_any i 0 _).mono ?_
          rintro e w1 ⟨rfl, rfl⟩
          rw [H1.out]
          go_wp2_with fail
          refine (time_any t 0 _).mono ?_
          rintro e w1 ⟨rfl, rfl⟩
          rw [H2.out]
          go_wp2_with fail
          refine (right_any _ cf _ HNN.out hl).mono ?_
          rintro e w1 ⟨rfl, rfl⟩
          rw [H3.out]
          go_wp2
          go_ret
          exact ⟨ret_bool (by simp; omega), B.out⟩

set_option maxRecDepth 100000 in
theorem entSame_any (i t k i' t' k' : Int) (v v' : Value) (d d' : List Int) (w : World) (hv : IsNums .u8 w v d) (hv' : IsNums .u8 w v' d') (hd : ∀ x ∈ d, 0 ≤ x ∧ x ≤ 255) (hd' : ∀ x ∈ d', 0 ≤ x ∧ x ≤ 255) :
    Calls Try.prog 13 #[entV i t k v, entV i' t' k' v'] w fun e w' => e = .returned (.bool (decide ((i, t, k, d) = (i', t', k', d')))) ∧ Below w.heap.size w w' := by
  obtain ⟨a, c, rfl, -⟩ := id hv
  obtain ⟨a', c', rfl, -⟩ := id hv'
  obtain ⟨n, hn⟩ : ∃ n, d.length = n := ⟨_, rfl⟩
  obtain ⟨n', hn'⟩ : ∃ n, d'.length = n := ⟨_, rfl⟩
  rw [hn] at hv ⊢
  rw [hn'] at hv' ⊢
  have hb := ((Below.refl w.heap.size w).alloc (Nat.le_refl _) (.cells #[.int .i64 i, .int .i64 t, .int .i64 k, .slice a n c] 24))
  have hx := Blk.alloc w 24 #[.int .i64 i, .int .i64 t, .int .i64 k, .slice a n c]
  have hv1 := hv.alloc (.cells #[.int .i64 i, .int .i64 t, .int .i64 k, .slice a n c] 24)
  have hv1' := hv'.alloc (.cells #[.int .i64 i, .int .i64 t, .int .i64 k, .slice a n c] 24)
  obtain ⟨w1, hw1⟩ : ∃ x, w.alloc (.cells #[.int .i64 i, .int .i64 t, .int .i64 k, .slice a n c] 24) = x := ⟨_, rfl⟩
  rw [hw1] at hb hx hv1 hv1'
  have hb2 := hb.alloc hb.size (.cells #[.int .i64 i', .int .i64 t', .int .i64 k', .slice a' n' c'] 24)
  have hy := Blk.alloc w1 24 #[.int .i64 i', .int .i64 t', .int .i64 k', .slice a' n' c']
  have hx2 := hx.below ((Below.refl w1.heap.size w1).alloc (Nat.le_refl _) (.cells #[.int .i64 i', .int .i64 t', .int .i64 k', .slice a' n' c'] 24)) hx.lt
  have hv2 := hv1.alloc (.cells #[.int .i64 i', .int .i64 t', .int .i64 k', .slice a' n' c'] 24)
  have hv2' := hv1'.alloc (.cells #[.int .i64 i', .int .i64 t', .int .i64 k', .slice a' n' c'] 24)
  obtain ⟨w2, hw2⟩ : ∃ x, w1.alloc (.cells #[.int .i64 i', .int .i64 t', .int .i64 k', .slice a' n' c'] 24) = x := ⟨_, rfl⟩
  rw [hw2] at hb2 hy hx2 hv2 hv2'
  have x0 := hx2.cell 0
  have x1 := hx2.cell 1
  have x2 := hx2.cell 2
  have x3 := hx2.cell 3
  have y0 := hy.cell 0
  have y1 := hy.cell 1
  have y2 := hy.cell 2
  have y3 := hy.cell 3
  have B := Lib.hid hb2
  have V := Lib.hid hv2
  have V' := Lib.hid hv2'
  have HD := Lib.hid hd
  have HD' := Lib.hid hd'
  unfold entV
  clear hv hv' hb hx hv1 hv1' hb2 hy hx2 hv2 hv2' hd hd' hn hn'
  by_cases ei : i = i'
  · subst ei
    by_cases et : t = t'
    · subst et
      by_cases ek : k = k'
      · subst ek
        go_enter Try.func13, Try.ntmps13
        go_wp2_with fail
        refine (equal_any w2 _ _ d d' V.out V'.out HD.out HD'.out).mono ?_
        rintro e w3 ⟨rfl, rfl⟩
        by_cases q : d = d'
        · rw [decide_eq_true q]
          have Q := Lib.hid q
          clear q
          go_wp2
          go_ret
          exact ⟨ret_bool (by rw [Q.out]; simp), B.out⟩
        · rw [decide_eq_false q]
          have Q := Lib.hid q
          clear q
          go_wp2
          go_ret
          exact ⟨ret_bool (by first | rfl | (symm; rw [decide_eq_false_iff_not]; intro h; injection h with h1 h2; injection h2 with h2 h3; injection h3 with h3 h4; exact Q.out h4)), B.out⟩
      · have ek' : (k == k') = false := by rw [beq_eq_false_iff_ne]; exact ek
        go_enter Try.func13, Try.ntmps13
        go_wp2
        go_ret
        exact ⟨ret_bool (by first | rfl | (symm; rw [decide_eq_false_iff_not]; intro h; injection h with h1 h2; injection h2 with h2 h3; injection h3 with h3 h4; exact ek h3)), B.out⟩
    · have et' : (t == t') = false := by rw [beq_eq_false_iff_ne]; exact et
      go_enter Try.func13, Try.ntmps13
      go_wp2
      go_ret
      exact ⟨ret_bool (by first | rfl | (symm; rw [decide_eq_false_iff_not]; intro h; injection h with h1 h2; injection h2 with h2 h3; exact et h2)), B.out⟩
  · have ei' : (i == i') = false := by rw [beq_eq_false_iff_ne]; exact ei
    go_enter Try.func13, Try.ntmps13
    go_wp2
    go_ret
    exact ⟨ret_bool (by first | rfl | (symm; rw [decide_eq_false_iff_not]; intro h; injection h with h1 h2; exact ei h1)), B.out⟩
end Go.Proofs.Ytkfcpnmdmoeioaa.K
