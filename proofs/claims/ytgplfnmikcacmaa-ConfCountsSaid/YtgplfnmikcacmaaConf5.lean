/- The walk of ConfCounts: it returns true, and writes nothing that was there. -/
import Derived.Test.YtgplfnmikcacmaaConf4
namespace Go.Proofs.Ytgplfnmikcacmaa.K
open Go.ChangeShapes Go.WideShapes Go.ChangeAt Go.RowKit Go.Sort
set_option linter.unusedVariables false

/-- 0, 1 .. -/
def upL (k : Nat) : List Int := (List.range k).map fun (n : Nat) => (n : Int)
theorem upL_len (k : Nat) : (upL k).length = k := by simp [upL]
theorem upL_snoc (k : Nat) : (upL (k + 1)).map (Value.int .i64) = (upL k).map (Value.int .i64) ++ [.int .i64 k] := by simp [upL, List.range_succ]
theorem counts_most : ∀ a, a < 8 → ∀ b, b < 9 → decide ((canon (upL a)).length < 2 * votes (canon (upL a)) (upL b)) = decide (a < 2 * min a b) := by decide +kernel
theorem counts_none : ∀ a, a < 8 → decide ((canon (upL a)).length < 2 * votes (canon (upL a)) [9, -1]) = false := by decide +kernel
theorem counts_right : ∀ a, a < 8 → rightB (upL a) = decide (0 < a) := by decide +kernel

set_option maxRecDepth 100000 in
set_option maxHeartbeats 4000000 in
theorem counts_walk (a0 a1 : Int) (w : World) (l0 : 0 ≤ a0) (u0 : a0 ≤ 255) (l1 : 0 ≤ a1) (u1 : a1 ≤ 255) :
    Calls Try.prog 6 #[.int .u8 a0, .int .u8 a1] w fun e w' => e = .returned (.bool true) ∧ Below w.heap.size w w' := by
  obtain ⟨A, hA⟩ : ∃ A : Nat, a0 % 8 = A := ⟨(a0 % 8).toNat, by omega⟩
  obtain ⟨B, hB⟩ : ∃ B : Nat, a1 % 9 = B := ⟨(a1 % 9).toNat, by omega⟩
  have hA8 : A < 8 := by omega
  have hB9 : B < 9 := by omega
  go_enter Try.func6, Try.ntmps6
  go_wp2_with fail
  refine (known_true _).mono ?_
  rintro e w1 ⟨rfl, hb1⟩
  go_wp2
  go_loopw [5, 7] (fun u i wr => ∃ k : Nat, k ≤ A ∧ i = .int .i64 k ∧ wr.ownsRow w.heap.size 3 1 u k ((upL k).map (Value.int .i64)) ∧ Below w.heap.size w wr) (fun _ i _ => A - (intOf i).toNat)
  case atStart => exact ⟨0, Nat.zero_le _, rfl, World.ownsRow_nil _ _ _ _, hb1⟩
  case round =>
    obtain ⟨k, hk, rfl, hown, hbel⟩ := hrel
    have hsz := hbel.size
    by_cases hlt : k < A
    · have hk7 : k < 7 := by omega
      go_wp2_with (at_builtin; refine wpList_app1 rfl _ _ 22 rfl w.heap.size 3 .i64 8 Try.underlying22 info_int (by omega) _ k _ rfl hown _ 1 rfl (by omega) hsz ?_; intro v' w' hown' hb')
      go_roundw
      case rel => exact ⟨k + 1, by omega, by go_num, by rw [upL_snoc]; exact hown', hbel.trans hb'⟩
      case measure => simp [intOf]; omega
    · obtain rfl : k = A := by omega
      have hL : IsNums .i64 wr u5 (upL k) := IsNums.ofOwn hown
      obtain ⟨pl, cl, rfl, -⟩ := id hL
      rw [upL_len]
      have HL := Lib.hid hL
      clear hown hL
      obtain ⟨wo, rfl⟩ : ∃ wo : World, wo = wr := ⟨_, rfl⟩
      go_wp2
      clear hA
      go_loopw [6, 8] (fun u i wr => ∃ m : Nat, m ≤ B ∧ i = .int .i64 m ∧ wr.ownsRow wo.heap.size 3 1 u m ((upL m).map (Value.int .i64)) ∧ Below wo.heap.size wo wr) (fun _ i _ => B - (intOf i).toNat)
      case atStart => exact ⟨0, Nat.zero_le _, rfl, World.ownsRow_nil _ _ _ _, Below.refl _ _⟩
      case round =>
        obtain ⟨m, hm, rfl, hown, hbel2⟩ := hrel
        have hsz2 := hbel2.size
        by_cases hlt2 : m < B
        · go_wp2_with (at_builtin; refine wpList_app1 rfl _ _ 22 rfl wo.heap.size 3 .i64 8 Try.underlying22 info_int (by omega) _ m _ rfl hown _ 1 rfl (by omega) hsz2 ?_; intro v' w' hown' hb')
          go_roundw
          case rel => exact ⟨m + 1, by omega, by go_num, by rw [upL_snoc]; exact hown', hbel2.trans hb'⟩
          case measure => simp [intOf]; omega
        obtain rfl : m = B := by omega
        have hY : IsNums .i64 wr u6 (upL m) := IsNums.ofOwn hown
        obtain ⟨py, cy, rfl, -⟩ := id hY
        rw [upL_len]
        have HY2 := Lib.hid hY
        have HL2 := Lib.hid (HL.out.below hbel2 (Nat.le_refl _))
        have hB3 := hbel.trans (hbel2.mono hsz)
        have hmost0 := counts_most k hA8 m hB9
        have hnone := counts_none k hA8
        have hright0 := counts_right k hA8
        rw [upL_len] at HY2 HL2
        clear hown hY hbel hbel2
        by_cases hAB : k ≤ m
        · rw [Nat.min_eq_left hAB] at hmost0
          by_cases h0 : 0 < k
          · have hmost : _ = true := hmost0.trans (by simp; omega)
            have hright : _ = true := hright0.trans (by simpa using h0)
            clear hmost0 hright0
            go_wp2_with fail
            refine (most_is _ _ (upL k) (upL m) _ HL2.out HY2.out (by rw [upL_len]; omega) (by rw [upL_len]; omega) true hmost).mono ?_
            rintro e w4 ⟨rfl, hb4⟩
            have HL3 := Lib.hid (HL2.out.below hb4 (Nat.le_refl _))
            have hB4 := hB3.trans (hb4.mono hB3.size)
            clear hb4 HL2 HY2 hB3
            go_wp2_with (go_at_call 18; ((with_reducible refine (right_is _ (upL k) _ HL3.out (by rw [upL_len]; omega) true hright).mono ?_); rintro e w' ⟨rfl, rfl⟩))
            refine (most_is _ _ (upL k) [9, -1] _ (HL3.out.alloc _) (IsNums.lit .i64 w4 [9, -1] _ _ _ _ rfl rfl) (by rw [upL_len]; omega) (by simp) false hnone).mono ?_
            rintro e w5 ⟨rfl, hb5⟩
            have hB5 := (hB4.alloc hB4.size (.cells #[.int .i64 9, .int .i64 (-1)] 3)).trans (hb5.mono (by have := hB4.size; simp; omega))
            clear hb5
            go_wp2
            go_ret
            first | exact ⟨rfl, hB5⟩ | exact ⟨ret_bool (by simp; omega), hB5⟩
          · have hmost : _ = false := hmost0.trans (by simp; omega)
            have hright : _ = false := hright0.trans (by simpa using h0)
            clear hmost0 hright0
            go_wp2_with fail
            refine (most_is _ _ (upL k) (upL m) _ HL2.out HY2.out (by rw [upL_len]; omega) (by rw [upL_len]; omega) false hmost).mono ?_
            rintro e w4 ⟨rfl, hb4⟩
            have HL3 := Lib.hid (HL2.out.below hb4 (Nat.le_refl _))
            have hB4 := hB3.trans (hb4.mono hB3.size)
            clear hb4 HL2 HY2 hB3
            go_wp2_with (go_at_call 18; ((with_reducible refine (right_is _ (upL k) _ HL3.out (by rw [upL_len]; omega) false hright).mono ?_); rintro e w' ⟨rfl, rfl⟩))
            refine (most_is _ _ (upL k) [9, -1] _ (HL3.out.alloc _) (IsNums.lit .i64 w4 [9, -1] _ _ _ _ rfl rfl) (by rw [upL_len]; omega) (by simp) false hnone).mono ?_
            rintro e w5 ⟨rfl, hb5⟩
            have hB5 := (hB4.alloc hB4.size (.cells #[.int .i64 9, .int .i64 (-1)] 3)).trans (hb5.mono (by have := hB4.size; simp; omega))
            clear hb5
            go_wp2
            go_ret
            first | exact ⟨rfl, hB5⟩ | exact ⟨ret_bool (by simp; omega), hB5⟩
        · rw [Nat.min_eq_right (by omega)] at hmost0
          have h0 : 0 < k := by omega
          have hright : _ = true := hright0.trans (by simpa using h0)
          by_cases hq : k < 2 * m
          · have hmost : _ = true := hmost0.trans (by simpa using hq)
            clear hmost0 hright0
            go_wp2_with fail
            refine (most_is _ _ (upL k) (upL m) _ HL2.out HY2.out (by rw [upL_len]; omega) (by rw [upL_len]; omega) true hmost).mono ?_
            rintro e w4 ⟨rfl, hb4⟩
            have HL3 := Lib.hid (HL2.out.below hb4 (Nat.le_refl _))
            have hB4 := hB3.trans (hb4.mono hB3.size)
            clear hb4 HL2 HY2 hB3
            go_wp2_with (go_at_call 18; ((with_reducible refine (right_is _ (upL k) _ HL3.out (by rw [upL_len]; omega) true hright).mono ?_); rintro e w' ⟨rfl, rfl⟩))
            refine (most_is _ _ (upL k) [9, -1] _ (HL3.out.alloc _) (IsNums.lit .i64 w4 [9, -1] _ _ _ _ rfl rfl) (by rw [upL_len]; omega) (by simp) false hnone).mono ?_
            rintro e w5 ⟨rfl, hb5⟩
            have hB5 := (hB4.alloc hB4.size (.cells #[.int .i64 9, .int .i64 (-1)] 3)).trans (hb5.mono (by have := hB4.size; simp; omega))
            clear hb5
            go_wp2
            go_ret
            first | exact ⟨rfl, hB5⟩ | exact ⟨ret_bool (by simp; omega), hB5⟩
          · have hmost : _ = false := hmost0.trans (by simpa using hq)
            clear hmost0 hright0
            go_wp2_with fail
            refine (most_is _ _ (upL k) (upL m) _ HL2.out HY2.out (by rw [upL_len]; omega) (by rw [upL_len]; omega) false hmost).mono ?_
            rintro e w4 ⟨rfl, hb4⟩
            have HL3 := Lib.hid (HL2.out.below hb4 (Nat.le_refl _))
            have hB4 := hB3.trans (hb4.mono hB3.size)
            clear hb4 HL2 HY2 hB3
            go_wp2_with (go_at_call 18; ((with_reducible refine (right_is _ (upL k) _ HL3.out (by rw [upL_len]; omega) true hright).mono ?_); rintro e w' ⟨rfl, rfl⟩))
            refine (most_is _ _ (upL k) [9, -1] _ (HL3.out.alloc _) (IsNums.lit .i64 w4 [9, -1] _ _ _ _ rfl rfl) (by rw [upL_len]; omega) (by simp) false hnone).mono ?_
            rintro e w5 ⟨rfl, hb5⟩
            have hB5 := (hB4.alloc hB4.size (.cells #[.int .i64 9, .int .i64 (-1)] 3)).trans (hb5.mono (by have := hB4.size; simp; omega))
            clear hb5
            go_wp2
            go_ret
            first | exact ⟨rfl, hB5⟩ | exact ⟨ret_bool (by simp; omega), hB5⟩

end Go.Proofs.Ytgplfnmikcacmaa.K
