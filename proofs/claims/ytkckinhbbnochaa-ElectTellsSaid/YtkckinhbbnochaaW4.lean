/- What the document's own Timeout, Newer and Commit return: the same as the program's. -/
import Derived.Test.YtkckinhbbnochaaW3
namespace Go.Proofs.Ytkckinhbbnochaa
open Go.ChangeShapes Go.WideShapes Go.ChangeAt Go.RowKit

set_option maxHeartbeats 1000000 in
theorem ref_timeout_any (n t : Int) (w : World) (n0 : -9223372036854775808 ≤ n) (n1 : n ≤ 9223372036854775807) (t0 : -9223372036854775808 ≤ t) (t1 : t ≤ 9223372036854775807) :
    Calls Try.prog 10 #[.int .i64 n, .int .i64 t] w fun e w' => e = .returned (.int .i64 (tmo n t)) ∧ w = w' := by
  go_enter Try.func10, Try.ntmps10
  go_wp2
  all_goals (go_ret; exact ⟨ret_int (by unfold tmo; omega), rfl⟩)

set_option maxHeartbeats 1000000 in
theorem ref_newer_any (a b c d : Int) (w : World) :
    Calls Try.prog 12 #[.int .i64 a, .int .i64 b, .int .i64 c, .int .i64 d] w fun e w' => e = .returned (.bool (newer a b c d)) ∧ w = w' := by
  by_cases h1 : c < a
  · go_enter Try.func12, Try.ntmps12
    go_wp2
    go_ret
    exact ⟨ret_bool (by simp [newer, h1]), rfl⟩
  · by_cases h2 : a = c
    · subst h2
      go_enter Try.func12, Try.ntmps12
      go_wp2
      go_ret
      exact ⟨ret_bool (by simp [newer]), rfl⟩
    · go_enter Try.func12, Try.ntmps12
      go_wp2
      go_ret
      exact ⟨ret_bool (by simp [newer, h1, h2]), rfl⟩

theorem commit_empty (t c : Int) (ts : List Int) : ∀ n : Nat, scanF t c (c - 1) ts n = c
  | 0 => rfl
  | n + 1 => by rw [scanF, if_neg (by omega)]; exact commit_empty t c ts n

/-- The scan by counting. -/
def scanR (t c : Int) (m ts : List Int) : Nat → Int
  | 0 => c
  | k + 1 => if ts.getD k 0 = t ∧ m.length < 2 * cnt (c + 1 + k) m then c + 1 + k else scanR t c m ts k

theorem scanR_eq (t c : Int) (m ts : List Int) : scanR t c m ts ts.length = commitF t c m ts := by
  unfold commitF
  by_cases hm : m = []
  · subst hm
    rw [if_pos rfl]
    generalize ts.length = n
    induction n with
    | zero => rfl
    | succ n ih => rw [scanR, if_neg (by simp [cnt]), ih]
  · rw [if_neg hm]
    generalize ts.length = n
    induction n with
    | zero => rfl
    | succ n ih =>
      rw [scanR, scanF, ih]
      have h := most_iff m hm (c + 1 + n)
      by_cases h1 : ts.getD n 0 = t <;> by_cases h2 : c + 1 + n ≤ mostOf m
      · rw [if_pos ⟨h1, h.1 h2⟩, if_pos ⟨h2, h1⟩]
      · rw [if_neg (fun x => h2 (h.2 x.2)), if_neg (fun x => h2 x.1)]
      · rw [if_neg (fun x => h1 x.1), if_neg (fun x => h1 x.2)]
      · rw [if_neg (fun x => h1 x.1), if_neg (fun x => h1 x.2)]

set_option maxRecDepth 100000 in
set_option maxHeartbeats 2000000 in
theorem ref_commit_any (t c : Int) (m ts : List Int) (v2 v3 : Value) (w : World) (hm : K.IsNums .i64 w v2 m) (ht : K.IsNums .i64 w v3 ts) (hc0 : -2199023255552 ≤ c) (hc1 : c ≤ 2199023255552) (ml : m.length ≤ 1000) (tl : ts.length ≤ 1000) :
    Calls Try.prog 14 #[.int .i64 t, .int .i64 c, v2, v3] w fun e w' => e = .returned (.int .i64 (commitF t c m ts)) ∧ w = w' := by
  rw [← scanR_eq]
  obtain ⟨pm, cm, rfl, hm⟩ := hm
  obtain ⟨pt, ct, rfl, ht⟩ := ht
  have HM := Lib.hid hm
  have HT := Lib.hid ht
  clear hm ht
  go_enter Try.func14, Try.ntmps14
  go_wp2
  go_loop [9] (fun i => ∃ k : Nat, k ≤ ts.length ∧ i = .int .i64 ((k : Int) - 1) ∧ scanR t c m ts k = scanR t c m ts ts.length) (fun i => (intOf i + 1).toNat)
  case atStart => exact ⟨ts.length, Nat.le_refl _, rfl, rfl⟩
  case round =>
    obtain ⟨j, hj, rfl, hs⟩ := hrel
    rcases j with _ | j
    · rw [show (((0 : Nat) : Int) - 1) = -1 by rfl]
      have HS := Lib.hid hs
      clear hs
      go_wp2
      go_ret
      exact ⟨ret_int (by rw [← HS.out]; rfl), rfl⟩
    · rw [show (((j + 1 : Nat) : Int) - 1) = (j : Int) by omega]
      have HS := Lib.hid hs
      clear hs
      go_wp2
      go_loop [10, 11] (fun n i => ∃ k : Nat, k ≤ m.length ∧ i = .int .i64 k ∧ n = .int .i64 (cnt (c + 1 + j) (m.take k))) (fun _ i => m.length - (intOf i).toNat)
      case atStart => exact ⟨0, by omega, rfl, rfl⟩
      case round =>
        obtain ⟨k, hk, rfl, rfl⟩ := hrel
        have hcl := cnt_le (c + 1 + j) (m.take k)
        have hcl2 : (m.take k).length ≤ k := List.length_take_le _ _
        by_cases hlt2 : k < m.length
        · rcases HM.out with h0 | ⟨b, off, rfl, hblk, hcell⟩
          · omega
          have hc := hcell k (by omega)
          have hsn : cnt (c + 1 + j) (m.take (k + 1)) = cnt (c + 1 + j) (m.take k) + if c + 1 + j ≤ m.getD k 0 then 1 else 0 := by
            rw [List.take_succ_eq_append_getElem (by omega), cnt_snoc]; simp [List.getD, show k < m.length by omega]
          obtain ⟨x, hx⟩ : ∃ x, m.getD k 0 = x := ⟨_, rfl⟩
          rw [hx] at hc hsn
          have HN := Lib.hid hsn
          clear hcell hx hsn
          by_cases hge : c + 1 + j ≤ x
          · go_wp2
            go_round
            case rel => exact ⟨k + 1, by omega, by go_num, by rw [HN.out, if_pos hge]; go_num⟩
            case measure => simp [intOf]; omega
          · go_wp2
            go_round
            case rel => exact ⟨k + 1, by omega, by go_num, by rw [HN.out, if_neg hge]; rfl⟩
            case measure => simp [intOf]; omega
        · obtain rfl : k = m.length := by omega
          rw [List.take_length] at hcl ⊢
          have hst : scanR t c m ts (j + 1) = if ts.getD j 0 = t ∧ m.length < 2 * cnt (c + 1 + j) m then c + 1 + j else scanR t c m ts j := by rw [scanR]
          rw [HS.out] at hst
          generalize cnt (c + 1 + j) m = N at hcl hst ⊢
          rcases HT.out with h0 | ⟨b, off, rfl, hblk, hcell⟩
          · omega
          have hc := hcell j (by omega)
          obtain ⟨x, hx⟩ : ∃ x, ts.getD j 0 = x := ⟨_, rfl⟩
          rw [hx] at hc hst
          have HX := Lib.hid hst
          clear hcell hx hst
          by_cases hE0 : x = t
          · have hE : (x == t) = true := by rw [beq_iff_eq]; exact hE0
            have HE := Lib.hid hE0
            clear hE0
            by_cases hN : m.length < 2 * N
            · go_wp2
              go_ret
              exact ⟨ret_int (by rw [HX.out, if_pos ⟨HE.out, hN⟩]), rfl⟩
            · go_wp2
              go_round
              case rel => exact ⟨j, by omega, rfl, by rw [HX.out, if_neg (fun h => hN h.2)]⟩
              case measure => simp [intOf]
          · have hE : (x == t) = false := by rw [beq_eq_false_iff_ne]; exact hE0
            have HE := Lib.hid hE0
            clear hE0
            go_wp2
            go_round
            case rel => exact ⟨j, by omega, rfl, by rw [HX.out, if_neg (fun h => HE.out h.1)]⟩
            case measure => simp [intOf]

end Go.Proofs.Ytkckinhbbnochaa
