/- The walks of ElectApart and ElectOrders: each returns true, and writes nothing that was there. -/
import Derived.Test.YtkckinhbbnochaaE2
import Derived.Handy
namespace Go.Proofs.Ytkckinhbbnochaa
open Go.ChangeShapes Go.WideShapes Go.ChangeAt Go.RowKit

theorem wf_u8 {a : Int} (h : (Lit.int .u8 a).wf = true) : 0 ≤ a ∧ a ≤ 255 := by
  have : IntKind.u8.min ≤ a ∧ a ≤ IntKind.u8.max := by simpa [Lit.wf] using h
  simpa [IntKind.min, IntKind.max, IntKind.signed, IntKind.bits] using this
theorem wf_u32 {a : Int} (h : (Lit.int .u32 a).wf = true) : 0 ≤ a ∧ a ≤ 4294967295 := by
  have : IntKind.u32.min ≤ a ∧ a ≤ IntKind.u32.max := by simpa [Lit.wf] using h
  simpa [IntKind.min, IntKind.max, IntKind.signed, IntKind.bits] using this
theorem wf_i64 {a : Int} (h : (Lit.int .i64 a).wf = true) : -9223372036854775808 ≤ a ∧ a ≤ 9223372036854775807 := by
  have : IntKind.i64.min ≤ a ∧ a ≤ IntKind.i64.max := by simpa [Lit.wf] using h
  simpa [IntKind.min, IntKind.max, IntKind.signed, IntKind.bits] using this

theorem tmo_lo (n t : Int) : 10 ≤ tmo n t := by unfold tmo; omega
theorem tmo_hi (n t : Int) : tmo n t < 20 := by unfold tmo; omega
theorem tmo_apart (n m t : Int) (n0 : 0 ≤ n) (n1 : n < 7) (m0 : 0 ≤ m) (m1 : m < 7) (h : n ≠ m) : tmo n t ≠ tmo m t := by
  unfold tmo; omega

set_option maxHeartbeats 1000000 in
theorem apart_walk (a0 a1 a2 : Int) (w0 : 0 ≤ a0 ∧ a0 ≤ 4294967295) (w1 : 0 ≤ a1 ∧ a1 ≤ 255) (w2 : 0 ≤ a2 ∧ a2 ≤ 255) (w : World) :
    Calls Try.prog 4 #[.int .u32 a0, .int .u8 a1, .int .u8 a2] w fun e w' => e = .returned (.bool true) ∧ Below w.heap.size w w' := by
  obtain ⟨w00, w01⟩ := w0
  obtain ⟨w10, w11⟩ := w1
  obtain ⟨w20, w21⟩ := w2
  have f1 : decide (10 ≤ tmo (a1 % 7) a0) = true := by simpa using tmo_lo _ _
  have f2 : decide (tmo (a1 % 7) a0 < 20) = true := by simpa using tmo_hi _ _
  by_cases h : a1 % 7 = a2 % 7
  · have f3 : (a1 % 7 == a2 % 7) = true := by simpa using h
    have f4 : (tmo (a1 % 7) a0 == tmo (a2 % 7) a0) = true := by simp [h]
    clear h
    go_enter Try.func4, Try.ntmps4
    go_wp2_with (first | (go_at_call 8; refine (known_true _).mono ?_; rintro e w' ⟨rfl, hb⟩) | (go_at_call 9; refine (timeout_any _ _ _ (by omega) (by omega) (by omega) (by omega)).mono ?_; rintro e w' ⟨rfl, rfl⟩))
    go_ret
    exact ⟨rfl, hb⟩
  · have f3 : (a1 % 7 == a2 % 7) = false := by simpa using h
    have f4 : (tmo (a1 % 7) a0 == tmo (a2 % 7) a0) = false := by simpa using tmo_apart _ _ a0 (by omega) (by omega) (by omega) (by omega) h
    clear h
    go_enter Try.func4, Try.ntmps4
    go_wp2_with (first | (go_at_call 8; refine (known_true _).mono ?_; rintro e w' ⟨rfl, hb⟩) | (go_at_call 9; refine (timeout_any _ _ _ (by omega) (by omega) (by omega) (by omega)).mono ?_; rintro e w' ⟨rfl, rfl⟩))
    go_ret
    exact ⟨rfl, hb⟩

theorem newer_iff (a b c d : Int) : newer a b c d = true ↔ (c < a ∨ (a = c ∧ d ≤ b)) := by simp [newer]
theorem newer_not (a b c d : Int) : newer a b c d = false ↔ ¬ (c < a ∨ (a = c ∧ d ≤ b)) := by unfold newer; exact decide_eq_false_iff_not

set_option maxHeartbeats 1000000 in
/-- The walk, once the four answers and the two tests are known, and agree. -/
theorem orders_way (a0 a1 a2 a3 a4 a5 : Int) (w0 : 0 ≤ a0) (v0 : a0 ≤ 255) (w1 : 0 ≤ a1) (v1 : a1 ≤ 255) (w2 : 0 ≤ a2) (v2 : a2 ≤ 255) (w3 : 0 ≤ a3) (v3 : a3 ≤ 255) (w4 : 0 ≤ a4) (v4 : a4 ≤ 255) (w5 : 0 ≤ a5) (v5 : a5 ≤ 255) (w : World)
    (X Y Z V E F : Bool) (hX : newer (a0 % 4) (a1 % 4) (a2 % 4) (a3 % 4) = X) (hY : newer (a2 % 4) (a3 % 4) (a0 % 4) (a1 % 4) = Y) (hZ : newer (a2 % 4) (a3 % 4) (a4 % 4) (a5 % 4) = Z) (hV : newer (a0 % 4) (a1 % 4) (a4 % 4) (a5 % 4) = V)
    (hE : (a0 % 4 == a2 % 4) = E) (hF : (a1 % 4 == a3 % 4) = F) (ok : ((X || Y) && ((X && Y) == (E && F)) && (!(X && Z) || V)) = true) :
    Calls Try.prog 6 #[.int .u8 a0, .int .u8 a1, .int .u8 a2, .int .u8 a3, .int .u8 a4, .int .u8 a5] w fun e w' => e = .returned (.bool true) ∧ Below w.heap.size w w' := by
  cases X <;> cases Y <;> cases E <;> cases F <;> cases Z <;> cases V <;> (first | (exfalso; revert ok; decide) | (clear ok; go_enter Try.func6, Try.ntmps6; go_wp2_with (first | (go_at_call 8; refine (known_true _).mono ?_; rintro e w' ⟨rfl, hb⟩) | (go_at_call 11; refine (newer_any _ _ _ _ _).mono ?_; rintro e w' ⟨rfl, rfl⟩)); go_ret; exact ⟨rfl, hb⟩))

theorem orders_walk (a0 a1 a2 a3 a4 a5 : Int) (w0 : 0 ≤ a0 ∧ a0 ≤ 255) (w1 : 0 ≤ a1 ∧ a1 ≤ 255) (w2 : 0 ≤ a2 ∧ a2 ≤ 255) (w3 : 0 ≤ a3 ∧ a3 ≤ 255) (w4 : 0 ≤ a4 ∧ a4 ≤ 255) (w5 : 0 ≤ a5 ∧ a5 ≤ 255) (w : World) :
    Calls Try.prog 6 #[.int .u8 a0, .int .u8 a1, .int .u8 a2, .int .u8 a3, .int .u8 a4, .int .u8 a5] w fun e w' => e = .returned (.bool true) ∧ Below w.heap.size w w' := by
  refine orders_way a0 a1 a2 a3 a4 a5 w0.1 w0.2 w1.1 w1.2 w2.1 w2.2 w3.1 w3.2 w4.1 w4.2 w5.1 w5.2 w _ _ _ _ _ _ rfl rfl rfl rfl rfl rfl ?_
  generalize a0 % 4 = p0
  generalize a1 % 4 = p1
  generalize a2 % 4 = p2
  generalize a3 % 4 = p3
  generalize a4 % 4 = p4
  generalize a5 % 4 = p5
  cases hX : newer p0 p1 p2 p3 <;> cases hY : newer p2 p3 p0 p1 <;> cases hZ : newer p2 p3 p4 p5 <;> cases hV : newer p0 p1 p4 p5 <;> cases hE : (p0 == p2) <;> cases hF : (p1 == p3) <;> (first | rfl | (exfalso; simp only [newer_iff, newer_not, beq_iff_eq, beq_eq_false_iff_ne, ne_eq] at hX hY hZ hV hE hF; omega))

end Go.Proofs.Ytkckinhbbnochaa
