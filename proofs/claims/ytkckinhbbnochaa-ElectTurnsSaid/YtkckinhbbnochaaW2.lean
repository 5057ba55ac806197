/- The walk of ElectTurns: it returns true, and writes nothing that was there. -/
import Derived.Test.YtkckinhbbnochaaW1
import Derived.Lib.Hide
import Derived.LoopTactic
namespace Go.Proofs.Ytkckinhbbnochaa
open Go.ChangeShapes Go.WideShapes Go.ChangeAt Go.RowKit

def sawB (n t : Int) (k v : Nat) : Bool := (List.range k).any fun j => tmo n (t + j) == (v : Int)
def SeenTo (n t : Int) (B k : Nat) (wr : World) : Prop := ∀ v, v < 20 → wr.cell? ⟨B, v, none⟩ = some (.bool (sawB n t k v)) ∧ wr.frozen? ⟨B, v, none⟩ = false

theorem tmo_turn (n t : Int) (ht : 0 ≤ t) (i j : Nat) (hi : i < j) (hj : j < 10) : tmo n (t + i) ≠ tmo n (t + j) := by unfold tmo; omega
theorem tmo_ten (n t : Int) (ht : 0 ≤ t) : tmo n t = tmo n (t + 10) := by unfold tmo; omega
theorem tmo_neg (n : Int) (hn : 0 ≤ n) : tmo (-n) 0 = 10 := by unfold tmo; omega
theorem saw_not (n t : Int) (ht : 0 ≤ t) (k q : Nat) (hk : k < 10) (hq : tmo n (t + k) = q) : sawB n t k q = false := by
  unfold sawB
  rw [List.any_eq_false]
  intro j hj
  have := List.mem_range.1 hj
  have := tmo_turn n t ht j k this hk
  rw [← hq]; simpa using this
theorem saw_step (n t : Int) (k q v : Nat) (hq : tmo n (t + k) = q) : sawB n t (k + 1) v = (sawB n t k v || decide (v = q)) := by
  unfold sawB
  rw [List.range_succ, List.any_append]
  congr 1
  simp only [List.any_cons, List.any_nil, Bool.or_false, hq]
  rw [Bool.eq_iff_iff]; simp; omega

theorem timeout_is (n t q : Int) (w : World) (n0 : -9223372036854775808 ≤ n) (n1 : n ≤ 9223372036854775807) (t0 : -9223372036854775808 ≤ t) (t1 : t ≤ 9223372036854775807) (h : tmo n t = q) :
    Calls Try.prog 9 #[.int .i64 n, .int .i64 t] w fun e w' => e = .returned (.int .i64 q) ∧ w = w' := by
  subst h; exact timeout_any n t w n0 n1 t0 t1

theorem cell_new (w : World) (cs : Array Value) (t : TypeId) (x : Nat) : (w.alloc (.cells cs t)).cell? ⟨w.heap.size, x, none⟩ = cs[x]? := by unfold World.cell? World.alloc; simp
theorem frozen_new (w : World) (cs : Array Value) (t : TypeId) (x : Nat) : (w.alloc (.cells cs t)).frozen? ⟨w.heap.size, x, none⟩ = false := by unfold World.frozen? World.alloc; simp

set_option maxHeartbeats 1000000 in
theorem turns_walk (a0 a1 : Int) (w0 : 0 ≤ a0 ∧ a0 ≤ 255) (w1 : 0 ≤ a1 ∧ a1 ≤ 4294967295) (w : World) :
    Calls Try.prog 7 #[.int .u8 a0, .int .u32 a1] w fun e w' => e = .returned (.bool true) ∧ Below w.heap.size w w' := by
  obtain ⟨w00, w01⟩ := w0
  obtain ⟨w10, w11⟩ := w1
  go_enter Try.func7, Try.ntmps7
  go_wp2_with (go_at_call 8; refine (known_true _).mono ?_; rintro e v ⟨rfl, hb⟩)
  go_loopw [6] (fun i wr => ∃ k : Nat, k ≤ 10 ∧ i = .int .i64 k ∧ SeenTo (a0 % 7) a1 v.heap.size k wr ∧ Below w.heap.size w wr ∧ v.heap.size < wr.heap.size) (fun i _ => 10 - (intOf i).toNat)
  case atStart =>
    have hbv := hb.size
    refine ⟨0, by omega, rfl, ?_, by go_grown, by simp⟩
    intro x hx
    refine ⟨?_, frozen_new _ _ _ _⟩
    rw [cell_new]
    simp only [sawB, List.range_zero, List.any_nil]
    show (Array.replicate 20 (Value.bool false))[x]? = _
    simp [hx]
  case round =>
    obtain ⟨k, hk, rfl, hs, hbel, hsz⟩ := hrel
    have hbv := hb.size
    by_cases hlt : k < 10
    · obtain ⟨q, hq⟩ : ∃ q : Nat, tmo (a0 % 7) (a1 + k) = q := ⟨(tmo (a0 % 7) (a1 + k)).toNat, by have := tmo_lo (a0 % 7) (a1 + k); omega⟩
      have q1 : 10 ≤ q := by have := tmo_lo (a0 % 7) (a1 + k); omega
      have q2 : q < 20 := by have := tmo_hi (a0 % 7) (a1 + k); omega
      obtain ⟨hc, hf⟩ := hs q q2
      rw [saw_not _ _ w10 k q hlt hq] at hc
      have HS := Lib.hid hs
      clear hs
      have HQ := Lib.hid hq
      clear hq
      go_wp2_with (go_at_call 9; refine (timeout_is _ _ (q : Int) _ (by omega) (by omega) (by omega) (by omega) HQ.out).mono ?_; rintro e v2 ⟨rfl, rfl⟩)
      go_roundw
      case rel =>
        refine ⟨k + 1, by omega, by go_num, ?_, hbel.setCell (by simpa using hbv) _, by simpa using hsz⟩
        intro x hx
        obtain ⟨h1, h2⟩ := HS.out x hx
        rw [saw_step _ _ k q x HQ.out]
        by_cases e : x = q
        · subst e
          rw [show (sawB (a0 % 7) a1 k x || decide (x = x)) = true by simp]
          exact ⟨World.cell?_setCell_same _ _ _ hc, by rw [World.frozen?_setCell]; exact h2⟩
        · rw [show (sawB (a0 % 7) a1 k x || decide (x = q)) = sawB (a0 % 7) a1 k x by simp [e]]
          refine ⟨?_, by rw [World.frozen?_setCell]; exact h2⟩
          rw [World.cell?_setCell_other _ _ _ _ (by intro h; exact e (by simpa using (congrArg Addr.off h).symm))]
          exact h1
      case measure => simp [intOf]; omega
    · have : k = 10 := by omega
      subst this
      have f1 : (tmo (a0 % 7) a1 == tmo (a0 % 7) (a1 + 10)) = true := by simpa using tmo_ten (a0 % 7) a1 w10
      have f2 : (tmo (-a0) 0 == 10) = true := by simpa using tmo_neg a0 w00
      have HS := Lib.hid hs
      clear hs
      go_wp2_with (go_at_call 9; refine (timeout_any _ _ _ (by omega) (by omega) (by omega) (by omega)).mono ?_; rintro e v2 ⟨rfl, rfl⟩)
      go_ret
      exact ⟨rfl, hbel⟩

end Go.Proofs.Ytkckinhbbnochaa
