/- What elect.Timeout and elect.Newer return, for all numbers. -/
import Derived.Test.YtkckinhbbnochaaRows
import Derived.WalkKit
import Derived.ProofKit
import Derived.IntWalk
import Derived.WalkLawsBesides
import Derived.WalkSpells
namespace Go.Proofs.Ytkckinhbbnochaa
open Go.ChangeShapes Go.WideShapes Go.ChangeAt Go.RowKit

theorem ret_int {k : IntKind} {a b : Int} (h : a = b) : Ending.returned (.int k a) = .returned (.int k b) := by rw [h]
theorem ret_bool {a b : Bool} (h : a = b) : Ending.returned (.bool a) = .returned (.bool b) := by rw [h]

def tmo (n t : Int) : Int := 10 + (7 * (max n 0 % 10) + 3 * (max t 0 % 10)) % 10

set_option maxHeartbeats 1000000 in
theorem timeout_any (n t : Int) (w : World) (n0 : -9223372036854775808 ≤ n) (n1 : n ≤ 9223372036854775807) (t0 : -9223372036854775808 ≤ t) (t1 : t ≤ 9223372036854775807) :
    Calls Try.prog 9 #[.int .i64 n, .int .i64 t] w fun e w' => e = .returned (.int .i64 (tmo n t)) ∧ w = w' := by
  go_enter Try.func9, Try.ntmps9
  go_wp2
  all_goals (go_ret; exact ⟨ret_int (by unfold tmo; omega), rfl⟩)

def newer (a b c d : Int) : Bool := decide (c < a ∨ (a = c ∧ d ≤ b))

set_option maxHeartbeats 1000000 in
theorem newer_any (a b c d : Int) (w : World) :
    Calls Try.prog 11 #[.int .i64 a, .int .i64 b, .int .i64 c, .int .i64 d] w fun e w' => e = .returned (.bool (newer a b c d)) ∧ w = w' := by
  by_cases h1 : c < a
  · go_enter Try.func11, Try.ntmps11
    go_wp2
    go_ret
    exact ⟨ret_bool (by simp [newer, h1]), rfl⟩
  · by_cases h2 : a = c
    · subst h2
      go_enter Try.func11, Try.ntmps11
      go_wp2
      go_ret
      exact ⟨ret_bool (by simp [newer]), rfl⟩
    · go_enter Try.func11, Try.ntmps11
      go_wp2
      go_ret
      exact ⟨ret_bool (by simp [newer, h1, h2]), rfl⟩

end Go.Proofs.Ytkckinhbbnochaa
