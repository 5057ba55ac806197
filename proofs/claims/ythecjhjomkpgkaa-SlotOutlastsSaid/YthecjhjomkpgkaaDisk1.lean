/- The small methods of pdisk.Disk: what its three cells tell. -/
import Derived.Test.YthecjhjomkpgkaaNums
namespace Go.Proofs.Ythecjhjomkpgkaa.K
open Go.ChangeShapes Go.WideShapes Go.ChangeAt Go.RowKit
set_option linter.unusedVariables false

/-- A disk's own three cells: its sectors, its writes that aren't sure, how many till the power goes. -/
def Head (w : World) (B : Nat) (vs vu : Value) (left : Int) : Prop :=
  w.cell? ⟨B, 0, none⟩ = some vs ∧ w.cell? ⟨B, 1, none⟩ = some vu ∧ w.cell? ⟨B, 2, none⟩ = some (.int .i64 left) ∧ w.frozen? ⟨B, 0, none⟩ = false ∧ w.frozen? ⟨B, 1, none⟩ = false ∧ w.frozen? ⟨B, 2, none⟩ = false
theorem Head.lt {w : World} {B : Nat} {vs vu : Value} {l : Int} (h : Head w B vs vu l) : B < w.heap.size := World.block_lt_of_cell? w ⟨B, 0, none⟩ h.1
theorem Head.below {N : Nat} {w w' : World} {B : Nat} {vs vu : Value} {l : Int} (h : Head w B vs vu l) (hb : Below N w w') (hB : B < N) : Head w' B vs vu l := by
  obtain ⟨h0, h1, h2, h3, h4, h5⟩ := h
  exact ⟨by rw [hb.cell (by exact hB)]; exact h0, by rw [hb.cell (by exact hB)]; exact h1, by rw [hb.cell (by exact hB)]; exact h2, by rw [hb.frozen (by exact hB)]; exact h3, by rw [hb.frozen (by exact hB)]; exact h4, by rw [hb.frozen (by exact hB)]; exact h5⟩
/-- What is left is another number. -/
theorem Head.setLeft {w : World} {B : Nat} {vs vu : Value} {l : Int} (h : Head w B vs vu l) (m : Int) : Head (w.setCell ⟨B, 2, none⟩ (.int .i64 m)) B vs vu m := by
  obtain ⟨h0, h1, h2, h3, h4, h5⟩ := h
  refine ⟨?_, ?_, World.cell?_setCell_same _ _ _ h2, by rw [World.frozen?_setCell]; exact h3, by rw [World.frozen?_setCell]; exact h4, by rw [World.frozen?_setCell]; exact h5⟩
  · rw [World.cell?_setCell_other _ _ _ _ (by simp)]; exact h0
  · rw [World.cell?_setCell_other _ _ _ _ (by simp)]; exact h1

theorem diskhas_any (B : Nat) (p : Option Addr) (n c : Nat) (vu : Value) (l i : Int) (w : World) (h : Head w B (.slice p n c) vu l) :
    Calls Try.prog 79 #[.pointer (some ⟨B, 0, none⟩), .int .i64 i] w fun e w' => e = .returned (.bool (decide (0 ≤ i ∧ i < n))) ∧ w = w' := by
  obtain ⟨h0, h1, h2, h3, h4, h5⟩ := h
  by_cases q1 : 0 ≤ i
  · by_cases q2 : i < n
    · go_enter Try.func79, Try.ntmps79
      go_wp2
      go_ret
      exact ⟨ret_bool (by simp [q1, q2]), rfl⟩
    · go_enter Try.func79, Try.ntmps79
      go_wp2
      go_ret
      exact ⟨ret_bool (by simp [q2]), rfl⟩
  · go_enter Try.func79, Try.ntmps79
    go_wp2
    go_ret
    exact ⟨ret_bool (by simp; omega), rfl⟩

theorem power_any (B : Nat) (vs vu : Value) (l m : Int) (w : World) (h : Head w B vs vu l) (m0 : -9223372036854775808 ≤ m) (m1 : m ≤ 9223372036854775807) :
    Calls Try.prog 19 #[.pointer (some ⟨B, 0, none⟩), .int .i64 m] w fun e w' => e = .returned (.tuple #[]) ∧ w' = w.setCell ⟨B, 2, none⟩ (.int .i64 (max m (-1))) := by
  obtain ⟨h0, h1, h2, h3, h4, h5⟩ := h
  by_cases q : m < -1
  · have e1 : max m (-1) = -1 := by omega
    have q' : ¬ (-1 ≤ m) := by omega
    rw [e1]
    go_enter Try.func19, Try.ntmps19
    go_wp2
    go_returns
    exact ⟨rfl, rfl⟩
  · have e1 : max m (-1) = m := by omega
    have q' : -1 ≤ m := by omega
    rw [e1]
    go_enter Try.func19, Try.ntmps19
    go_wp2
    go_returns
    exact ⟨rfl, rfl⟩

/-- What is left behind a write or a flush. -/
def less (l : Int) : Int := if 0 < l then l - 1 else l
theorem spend_any (B : Nat) (vs vu : Value) (l : Int) (w : World) (h : Head w B vs vu l) (l0 : -1 ≤ l) (l1 : l ≤ 9223372036854775807) :
    Calls Try.prog 80 #[.pointer (some ⟨B, 0, none⟩)] w fun e w' => e = .returned (.bool (l != 0)) ∧ w' = if 0 < l then w.setCell ⟨B, 2, none⟩ (.int .i64 (l - 1)) else w := by
  obtain ⟨h0, h1, h2, h3, h4, h5⟩ := h
  by_cases q0 : l = 0
  · subst q0
    go_enter Try.func80, Try.ntmps80
    go_wp2
    go_ret
    exact ⟨rfl, rfl⟩
  · have q1 : (l == 0) = false := by rw [beq_eq_false_iff_ne]; exact q0
    by_cases q2 : 0 < l
    · rw [if_pos q2]
      go_enter Try.func80, Try.ntmps80
      go_wp2
      go_ret
      exact ⟨ret_bool (by simp [bne, q1]), rfl⟩
    · rw [if_neg q2]
      go_enter Try.func80, Try.ntmps80
      go_wp2
      go_ret
      exact ⟨ret_bool (by simp [bne, q1]), rfl⟩
end Go.Proofs.Ythecjhjomkpgkaa.K
