/- What conf.Right and mementolaw6.known return. -/
import Derived.Test.YtdafkboojdjcoaaConf2
namespace Go.Proofs.Ytdafkboojdjcoaa.K
open Go.ChangeShapes Go.WideShapes Go.ChangeAt Go.RowKit Go.Sort
set_option linter.unusedVariables false

def rightB (l : List Int) : Bool := decide (0 < l.length ∧ ∀ j, j < l.length → okB (l.getD j 0) = true ∧ (0 < j → l.getD (j - 1) 0 < l.getD j 0))

theorem right_no (l : List Int) (k : Nat) (h : k < l.length) (hn : ¬ (okB (l.getD k 0) = true ∧ (0 < k → l.getD (k - 1) 0 < l.getD k 0))) : rightB l = false := by
  unfold rightB
  rw [decide_eq_false_iff_not]
  exact fun h2 => hn (h2.2 k h)

set_option maxRecDepth 100000 in
set_option maxHeartbeats 2000000 in
theorem right_any (v : Value) (l : List Int) (w : World) (hv : IsNums .i64 w v l) (hl : l.length ≤ 900) :
    Calls Try.prog 18 #[v] w fun e w' => e = .returned (.bool (rightB l)) ∧ w = w' := by
  obtain ⟨p, c, rfl, h⟩ := hv
  have H := Lib.hid h
  clear h
  go_enter Try.func18, Try.ntmps18
  go_wp2
  go_loop [7] (fun i => ∃ k : Nat, k ≤ l.length ∧ i = .int .i64 k ∧ ∀ j, j < k → okB (l.getD j 0) = true ∧ (0 < j → l.getD (j - 1) 0 < l.getD j 0)) (fun i => l.length - (intOf i).toNat)
  case atStart => exact ⟨0, Nat.zero_le _, rfl, fun j hj => absurd hj (by omega)⟩
  case round =>
    obtain ⟨k, hk, rfl, hall⟩ := hrel
    have HA := Lib.hid hall
    clear hall
    by_cases hlt : k < l.length
    · obtain h0 | ⟨b, off, rfl, hblk, hcell⟩ := H.out
      · omega
      have hc := hcell k hlt
      have hcp := hcell (k - 1) (by omega)
      have hno := right_no l k hlt
      have hstep : (okB (l.getD k 0) = true ∧ (0 < k → l.getD (k - 1) 0 < l.getD k 0)) → ∀ j, j < k + 1 → okB (l.getD j 0) = true ∧ (0 < j → l.getD (j - 1) 0 < l.getD j 0) := by
        intro h j hj
        by_cases e : j = k
        · subst e; exact h
        · exact HA.out j (by omega)
      have HST := Lib.hid hstep
      clear hstep
      obtain ⟨x, hx⟩ : ∃ x, l.getD k 0 = x := ⟨_, rfl⟩
      obtain ⟨y, hy⟩ : ∃ y, l.getD (k - 1) 0 = y := ⟨_, rfl⟩
      rw [hx] at hc hno
      rw [hy] at hcp hno
      have HX := Lib.hid hx
      have HY := Lib.hid hy
      have HN := Lib.hid hno
      clear hcell hx hy hno
      cases hok : okB x with
      | false =>
        have hr : rightB l = false := HN.out (fun h => by rw [hok] at h; exact absurd h.1 (by simp))
        have HR := Lib.hid hr
        clear hr hcp
        go_wp2_with (go_at_call 25; ((with_reducible refine (maybe_any _ _).mono ?_); rintro e w' ⟨rfl, rfl⟩))
        go_ret
        exact ⟨ret_bool HR.out.symm, rfl⟩
      | true =>
        by_cases h0 : k ≤ 0
        · clear hcp
          go_wp2_with (go_at_call 25; ((with_reducible refine (maybe_any _ _).mono ?_); rintro e w' ⟨rfl, rfl⟩))
          go_round
          case rel => exact ⟨k + 1, by omega, by go_num, HST.out ⟨by rw [HX.out]; exact hok, fun h => absurd h (by omega)⟩⟩
          case measure => simp [intOf]; omega
        · obtain ⟨m, rfl⟩ : ∃ m, k = m + 1 := ⟨k - 1, by omega⟩
          simp only [Nat.add_sub_cancel] at hcp HY HN HST
          have ei : ((m + 1 : Nat) : Int) - 1 = m := by omega
          by_cases hxy : x ≤ y
          · have hr : rightB l = false := HN.out (fun h => by have := h.2 (by omega); omega)
            have HR := Lib.hid hr
            clear hr
            go_wp2_with (go_at_call 25; ((with_reducible refine (maybe_any _ _).mono ?_); rintro e w' ⟨rfl, rfl⟩))
            go_ret
            exact ⟨ret_bool HR.out.symm, rfl⟩
          · go_wp2_with (go_at_call 25; ((with_reducible refine (maybe_any _ _).mono ?_); rintro e w' ⟨rfl, rfl⟩))
            go_round
            case rel => exact ⟨m + 1 + 1, by omega, by go_num, HST.out ⟨by rw [HX.out]; exact hok, fun h => by rw [HX.out]; show l.getD m 0 < x; rw [HY.out]; omega⟩⟩
            case measure => simp [intOf]; omega
    · obtain rfl : k = l.length := by omega
      go_wp2
      go_ret
      refine ⟨ret_bool ?_, rfl⟩
      unfold rightB
      rw [Bool.eq_iff_iff]
      simp only [decide_eq_true_eq]
      exact ⟨fun h => ⟨by omega, HA.out⟩, fun h => by omega⟩

end Go.Proofs.Ytdafkboojdjcoaa.K
