/- What mementolaw7.known returns: true. -/
import Derived.Test.YtkckinhbbnochaaE1
namespace Go.Proofs.Ytkckinhbbnochaa
open Go.ChangeShapes Go.WideShapes Go.ChangeAt Go.RowKit

theorem sort1 : ([5, 5, 3] : List Int).mergeSort (fun x y => decide (x ≤ y)) = [3, 5, 5] := by
  simp [List.mergeSort]
theorem sort2 : ([4, 4, 4] : List Int).mergeSort (fun x y => decide (x ≤ y)) = [4, 4, 4] := by
  simp [List.mergeSort]
theorem c1 : commitF 2 3 [5, 5, 3] [1, 2, 2] = 5 := by
  unfold commitF mostOf
  rw [sort1]
  decide
theorem c2 : commitF 2 3 [4, 4, 4] [1, 2] = 3 := by
  unfold commitF mostOf
  rw [sort2]
  decide

theorem IsInts.alloc {w : World} {v : Value} {zs : List Int} (h : IsInts w v zs) (o : Obj) : IsInts (w.alloc o) v zs := by
  rcases h with h | ⟨b, off, c, rfl, h1, h2, h3⟩
  · exact .inl h
  · refine .inr ⟨b, off, c, rfl, h1, by simp; omega, fun j hj => ?_⟩
    rw [World.cell?_of_block (w := w) (Below.heap_alloc w o b h2)]
    exact h3 j hj

theorem IsInts.lit (w : World) (zs : List Int) (N : Nat) (e : TypeId) (n c : Nat) (hN : N = w.heap.size) (hn : n = zs.length) (hp : 0 < zs.length) : IsInts (w.alloc (.cells (zs.map (Value.int .i64)).toArray e)) (.slice (some ⟨N, 0, none⟩) n c) zs := by
  subst hN; subst hn
  refine .inr ⟨_, 0, c, rfl, hp, by simp, fun j hj => ?_⟩
  unfold World.cell? World.alloc
  simp [hj, List.getD]

theorem IsInts.below {B : Nat} {w w' : World} {v : Value} {zs : List Int} (h : IsInts w v zs) (hb : Below B w w') (hB : w.heap.size ≤ B) : IsInts w' v zs := by
  rcases h with h | ⟨b, off, c, rfl, h1, h2, h3⟩
  · exact .inl h
  · refine .inr ⟨b, off, c, rfl, h1, by have := hb.size; omega, fun j hj => ?_⟩
    rw [hb.cell (by show b < B; omega)]
    exact h3 j hj

theorem commit_is (t c : Int) (m ts : List Int) (r : Int) (v3 v4 : Value) (w : World) (hm : IsInts w v3 m) (ht : IsInts w v4 ts) (hc0 : -2199023255552 ≤ c) (hc1 : c ≤ 2199023255552) (ml : m.length ≤ 1000) (tl : ts.length ≤ 1000) (hr : commitF t c m ts = r) :
    Calls Try.prog 13 #[.int .i64 t, .int .i64 c, v3, v4] w fun e w' => e = .returned (.int .i64 r) ∧ Below w.heap.size w w' := by
  subst hr; exact commit_any t c m ts v3 v4 w hm ht hc0 hc1 ml tl

set_option maxHeartbeats 1000000 in
theorem known_true (w : World) : Calls Try.prog 8 #[] w fun e w' => e = .returned (.bool true) ∧ Below w.heap.size w w' := by
  have n1 : newer 2 1 1 9 = true := by decide
  have n2 : newer 1 8 1 9 = false := by decide
  have t1 : tmo 1 0 = 17 := by decide
  go_enter Try.func8, Try.ntmps8
  go_wp2_with (first | (go_at_call 9; refine (timeout_any _ _ _ (by omega) (by omega) (by omega) (by omega)).mono ?_; rintro e v2 ⟨rfl, rfl⟩) | (go_at_call 11; refine (newer_any _ _ _ _ _).mono ?_; rintro e w' ⟨rfl, rfl⟩))
  refine (commit_is 2 3 [5, 5, 3] [1, 2, 2] 5 _ _ _ ((IsInts.lit w _ _ _ _ _ rfl rfl (by simp)).alloc _) (IsInts.lit _ _ _ _ _ _ (by simp) rfl (by simp)) (by omega) (by omega) (by simp) (by simp) c1).mono ?_
  rintro e v1 ⟨rfl, hb1⟩
  have hb2 : Below w.heap.size w v1 := (((Below.refl _ w).alloc (Nat.le_refl _) _).alloc (by simp) _).trans (hb1.mono (by simp; omega))
  clear hb1
  go_wp2_with fail
  refine (commit_is 2 3 [4, 4, 4] [1, 2] 3 _ _ _ ((IsInts.lit v1 _ _ _ _ _ rfl rfl (by simp)).alloc _) (IsInts.lit _ _ _ _ _ _ (by simp) rfl (by simp)) (by omega) (by omega) (by simp) (by simp) c2).mono ?_
  rintro e v2 ⟨rfl, hb3⟩
  have hz := hb2.size
  have hb4 : Below w.heap.size w v2 := ((hb2.alloc hz _).alloc (by simp; omega) _).trans (hb3.mono (by simp; omega))
  clear hb3 hz
  go_wp2_with fail
  go_ret
  exact ⟨rfl, hb4⟩
end Go.Proofs.Ytkckinhbbnochaa
