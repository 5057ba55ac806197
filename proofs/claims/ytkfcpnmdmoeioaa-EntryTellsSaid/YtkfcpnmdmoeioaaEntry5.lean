/- slices.Equal of numbers; entry.SameBase. -/
import Derived.Test.YtkfcpnmdmoeioaaEntry4
import Derived.Deep.QuietTactic
namespace Go.Proofs.Ytkfcpnmdmoeioaa.K
open Go.ChangeShapes Go.WideShapes Go.ChangeAt Go.RowKit
set_option linter.unusedVariables false


set_option maxRecDepth 100000 in
theorem eqInts_any (w : World) (u v : Value) (xs ys : List Int) (hu : IsNums .i64 w u xs) (hv : IsNums .i64 w v ys) (hl : xs.length ≤ 1000000) :
    Calls Try.prog 43 #[u, v] w fun e w' => e = .returned (.bool (decide (xs = ys))) ∧ Below w.heap.size w w' := by
  obtain ⟨p, c, rfl, hx⟩ := hu
  obtain ⟨q, c', rfl, hy⟩ := hv
  by_cases hn : xs.length = ys.length
  · have HX := Lib.hid hx
    have HY := Lib.hid hy
    obtain ⟨n, hnn⟩ : ∃ n, xs.length = n := ⟨_, rfl⟩
    have hyn : ys.length = n := by omega
    rw [hnn] at hl ⊢
    rw [hyn]
    have HXN := Lib.hid hnn
    have HYN := Lib.hid hyn
    have hlI : (n : Int) ≤ 1000000 := by omega
    clear hx hy hn hnn hyn
    go_enter Try.func43, Try.ntmps43
    go_wp2
    go_loopw [13] (fun i wr => ∃ k : Nat, k ≤ n ∧ i = .int .i64 k ∧ (∀ j, j < k → xs.getD j 0 = ys.getD j 0) ∧ Below w.heap.size w wr) (fun i _ => n - (intOf i).toNat)
    case atStart => exact ⟨0, Nat.zero_le _, rfl, fun j hj => absurd hj (Nat.not_lt_zero _), Below.refl _ _⟩
    case round =>
      obtain ⟨k, hk, rfl, heq, hbel⟩ := hrel
      by_cases hlt : k < n
      · obtain h0 | ⟨b, o, rfl, hb, hc⟩ := HX.out
        · have := HXN.out; omega
        obtain h0 | ⟨b', o', rfl, hb', hc'⟩ := HY.out
        · have := HYN.out; omega
        have c1 := hc k (by have := HXN.out; omega)
        have c2 := hc' k (by have := HYN.out; omega)
        obtain ⟨x, hxe⟩ : ∃ x, xs.getD k 0 = x := ⟨_, rfl⟩
        obtain ⟨y, hye⟩ : ∃ x, ys.getD k 0 = x := ⟨_, rfl⟩
        rw [hxe] at c1
        rw [hye] at c2
        have d1 : wr.cell? ⟨b, o + k, none⟩ = some (.int .i64 x) := by rw [hbel.cell hb]; exact c1
        have d2 : wr.cell? ⟨b', o' + k, none⟩ = some (.int .i64 y) := by rw [hbel.cell hb']; exact c2
        have HEQ := Lib.hid heq
        have HBL := Lib.hid hbel
        have HXE := Lib.hid hxe
        have HYE := Lib.hid hye
        have hkI : (k : Int) < n := by omega
        clear hc hc' c1 c2 heq hbel hxe hye
        by_cases q : x = y
        · subst q
          go_wp2_with fail
          go_quiet (fail)
          go_wp2
          go_roundw
          case rel => exact ⟨k + 1, by omega, by go_num, fun j hj => (by
              by_cases e : j = k
              · rw [e, HXE.out, HYE.out]
              · exact HEQ.out j (by omega)), HBL.out.trans ⟨rfl, rfl, rfl, Nat.le_refl _, fun _ _ => rfl⟩⟩
          case measure => simp [intOf]; omega
        · have q2 : (x == y) = false := by rw [beq_eq_false_iff_ne]; exact q
          have Q := Lib.hid q
          go_wp2_with fail
          go_quiet (fail)
          go_wp2
          go_ret
          exact ⟨ret_bool (by first | rfl | (symm; rw [decide_eq_false_iff_not]; intro h; exact Q.out (by rw [← HXE.out, ← HYE.out, h]))), HBL.out.trans ⟨rfl, rfl, rfl, Nat.le_refl _, fun _ _ => rfl⟩⟩
      · obtain rfl : k = n := by omega
        have HEQ := Lib.hid heq
        have HBL := Lib.hid hbel
        clear heq hbel
        go_wp2
        go_ret
        refine ⟨ret_bool ?_, HBL.out⟩
        symm
        rw [decide_eq_true_iff]
        refine List.ext_getElem? fun j => ?_
        by_cases hj : j < k
        · have := HEQ.out j hj
          rw [List.getD_eq_getElem?_getD, List.getD_eq_getElem?_getD, List.getElem?_eq_getElem (by rw [HXN.out]; exact hj), List.getElem?_eq_getElem (by rw [HYN.out]; exact hj)] at this
          rw [List.getElem?_eq_getElem (by rw [HXN.out]; exact hj), List.getElem?_eq_getElem (by rw [HYN.out]; exact hj)]
          exact congrArg some this
        · rw [List.getElem?_eq_none (by rw [HXN.out]; omega), List.getElem?_eq_none (by rw [HYN.out]; omega)]
  · have hnI : ¬ (xs.length : Int) = ys.length := by omega
    have hne : decide (xs = ys) = false := by rw [decide_eq_false_iff_not]; intro h; exact hn (by rw [h])
    rw [hne]
    clear hx hy hne hl
    go_enter Try.func43, Try.ntmps43
    go_wp2
    go_ret
    exact ⟨rfl, Below.refl _ _⟩

set_option maxRecDepth 100000 in
set_option maxHeartbeats 1000000 in
theorem baseSame_any (i t i' t' : Int) (vc vd vc' vd' : Value) (cf d cf' d' : List Int) (w : World) (hc : IsNums .i64 w vc cf) (hc' : IsNums .i64 w vc' cf') (hv : IsNums .u8 w vd d) (hv' : IsNums .u8 w vd' d') (hd : ∀ x ∈ d, 0 ≤ x ∧ x ≤ 255) (hd' : ∀ x ∈ d', 0 ≤ x ∧ x ≤ 255) (hl : cf.length ≤ 1000000) :
    Calls Try.prog 23 #[baseV i t vc vd, baseV i' t' vc' vd'] w fun e w' => e = .returned (.bool (decide ((i, t, cf, d) = (i', t', cf', d')))) ∧ Below w.heap.size w w' := by
  obtain ⟨a, c, rfl, -⟩ := id hv
  obtain ⟨a', c', rfl, -⟩ := id hv'
  obtain ⟨ac, cc, rfl, -⟩ := id hc
  obtain ⟨ac', cc', rfl, -⟩ := id hc'
  obtain ⟨n, hn⟩ : ∃ n, d.length = n := ⟨_, rfl⟩
  obtain ⟨n', hn'⟩ : ∃ n, d'.length = n := ⟨_, rfl⟩
  obtain ⟨m, hm⟩ : ∃ n, cf.length = n := ⟨_, rfl⟩
  obtain ⟨m', hm'⟩ : ∃ n, cf'.length = n := ⟨_, rfl⟩
  rw [hn] at hv ⊢
  rw [hn'] at hv' ⊢
  rw [hm] at hc ⊢
  rw [hm'] at hc' ⊢
  have hb := ((Below.refl w.heap.size w).alloc (Nat.le_refl _) (.cells #[.int .i64 i, .int .i64 t, .slice ac m cc, .slice a n c] 27))
  have hx := Blk.alloc w 27 #[.int .i64 i, .int .i64 t, .slice ac m cc, .slice a n c]
  obtain ⟨w1, hw1⟩ : ∃ x, w.alloc (.cells #[.int .i64 i, .int .i64 t, .slice ac m cc, .slice a n c] 27) = x := ⟨_, rfl⟩
  rw [hw1] at hb hx
  have hb2 := hb.alloc hb.size (.cells #[.int .i64 i', .int .i64 t', .slice ac' m' cc', .slice a' n' c'] 27)
  have hy := Blk.alloc w1 27 #[.int .i64 i', .int .i64 t', .slice ac' m' cc', .slice a' n' c']
  have hx2 := hx.below ((Below.refl w1.heap.size w1).alloc (Nat.le_refl _) (.cells #[.int .i64 i', .int .i64 t', .slice ac' m' cc', .slice a' n' c'] 27)) hx.lt
  obtain ⟨w2, hw2⟩ : ∃ x, w1.alloc (.cells #[.int .i64 i', .int .i64 t', .slice ac' m' cc', .slice a' n' c'] 27) = x := ⟨_, rfl⟩
  rw [hw2] at hb2 hy hx2
  have x0 := hx2.cell 0
  have x1 := hx2.cell 1
  have x2 := hx2.cell 2
  have x3 := hx2.cell 3
  have y0 := hy.cell 0
  have y1 := hy.cell 1
  have y2 := hy.cell 2
  have y3 := hy.cell 3
  have XX := Lib.hid hx2
  have YY := Lib.hid hy
  have B := Lib.hid hb2
  have V := Lib.hid (hv.below hb2 (Nat.le_refl _))
  have V' := Lib.hid (hv'.below hb2 (Nat.le_refl _))
  have C := Lib.hid (hc.below hb2 (Nat.le_refl _))
  have C' := Lib.hid (hc'.below hb2 (Nat.le_refl _))
  have HD := Lib.hid hd
  have HD' := Lib.hid hd'
  unfold baseV
  clear hv hv' hb hx hb2 hy hx2 hd hd' hn hn' hc hc' hm hm'
  by_cases ei : i = i'
  · subst ei
    by_cases et : t = t'
    · subst et
      go_enter Try.func23, Try.ntmps23
      go_wp2_with fail
      refine (eqInts_any w2 _ _ cf cf' C.out C'.out hl).mono ?_
      rintro e w3 ⟨rfl, hb3⟩
      have x03 := (XX.out.below hb3 XX.out.lt).cell 3
      have y03 := (YY.out.below hb3 YY.out.lt).cell 3
      have B3 := Lib.hid (B.out.trans (hb3.mono B.out.size))
      have V3 := Lib.hid (V.out.below hb3 (Nat.le_refl _))
      have V3' := Lib.hid (V'.out.below hb3 (Nat.le_refl _))
      clear hb3
      by_cases q : cf = cf'
      · rw [decide_eq_true q]
        have Q := Lib.hid q
        clear q
        go_wp2_with fail
        refine (equal_any w3 _ _ d d' V3.out V3'.out HD.out HD'.out).mono ?_
        rintro e w4 ⟨rfl, rfl⟩
        by_cases q : d = d'
        · rw [decide_eq_true q]
          have Q2 := Lib.hid q
          clear q
          go_wp2
          go_ret
          exact ⟨ret_bool (by rw [Q.out, Q2.out]; simp), B3.out⟩
        · rw [decide_eq_false q]
          have Q2 := Lib.hid q
          clear q
          go_wp2
          go_ret
          exact ⟨ret_bool (by first | rfl | (symm; rw [decide_eq_false_iff_not]; intro h; injection h with h1 h2; injection h2 with h2 h3; injection h3 with h3 h4; exact Q2.out h4)), B3.out⟩
      · rw [decide_eq_false q]
        have Q := Lib.hid q
        clear q
        go_wp2
        go_ret
        exact ⟨ret_bool (by first | rfl | (symm; rw [decide_eq_false_iff_not]; intro h; injection h with h1 h2; injection h2 with h2 h3; injection h3 with h3 h4; exact Q.out h3)), B3.out⟩
    · have et' : (t == t') = false := by rw [beq_eq_false_iff_ne]; exact et
      go_enter Try.func23, Try.ntmps23
      go_wp2
      go_ret
      exact ⟨ret_bool (by first | rfl | (symm; rw [decide_eq_false_iff_not]; intro h; injection h with h1 h2; injection h2 with h2 h3; exact et h2)), B.out⟩
  · have ei' : (i == i') = false := by rw [beq_eq_false_iff_ne]; exact ei
    go_enter Try.func23, Try.ntmps23
    go_wp2
    go_ret
    exact ⟨ret_bool (by first | rfl | (symm; rw [decide_eq_false_iff_not]; intro h; injection h with h1 h2; exact ei h1)), B.out⟩
end Go.Proofs.Ytkfcpnmdmoeioaa.K
