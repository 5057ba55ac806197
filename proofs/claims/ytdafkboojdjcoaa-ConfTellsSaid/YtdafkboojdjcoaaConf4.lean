/- mementolaw6.known returns true. -/
import Derived.Test.YtdafkboojdjcoaaConf3
namespace Go.Proofs.Ytdafkboojdjcoaa.K
open Go.ChangeShapes Go.WideShapes Go.ChangeAt Go.RowKit Go.Sort
set_option linter.unusedVariables false

theorem of_is (v : Value) (l : List Int) (w : World) (hv : IsNums .i64 w v l) (hl : l.length ≤ 1000) (S : List Int) (n : Nat) (hS : canon l = S) (hn : S.length = n) :
    Calls Try.prog 17 #[v] w fun e w' => ∃ p c, e = .returned (.slice p n c) ∧ IsNums .i64 w' (.slice p n c) S ∧ Below w.heap.size w w' := by
  subst hS; subst hn
  refine (of_any v l w hv hl).mono fun e w' h => ?_
  obtain ⟨u, rfl, hown, hbel⟩ := h
  rw [ofL_canon] at hown
  have hN := IsNums.ofOwn hown
  obtain ⟨p, c, rfl, -⟩ := id hN
  exact ⟨p, c, rfl, hN, hbel⟩
theorem with_is (v : Value) (l : List Int) (m : Int) (w : World) (hv : IsNums .i64 w v l) (hl : l.length ≤ 900) (S : List Int) (n : Nat) (hS : canon (canon l ++ [m]) = S) (hn : S.length = n) :
    Calls Try.prog 13 #[v, .int .i64 m] w fun e w' => ∃ p c, e = .returned (.slice p n c) ∧ IsNums .i64 w' (.slice p n c) S ∧ Below w.heap.size w w' := by
  subst hS; subst hn
  refine (with_any v l m w hv hl).mono fun e w' h => ?_
  obtain ⟨u, rfl, hown, hbel⟩ := h
  rw [ofL_canon, ofL_canon] at hown
  have hN := IsNums.ofOwn hown
  obtain ⟨p, c, rfl, -⟩ := id hN
  exact ⟨p, c, rfl, hN, hbel⟩
theorem without_is (v : Value) (l : List Int) (m : Int) (w : World) (hv : IsNums .i64 w v l) (hl : l.length ≤ 900) (S : List Int) (n : Nat) (hS : (canon l).filter (fun x => decide (x ≠ m)) = S) (hn : S.length = n) :
    Calls Try.prog 15 #[v, .int .i64 m] w fun e w' => ∃ p c, e = .returned (.slice p n c) ∧ IsNums .i64 w' (.slice p n c) S ∧ Below w.heap.size w w' := by
  subst hS; subst hn
  refine (without_any v l m w hv hl).mono fun e w' h => ?_
  obtain ⟨u, rfl, hown, hbel⟩ := h
  rw [ofL_canon] at hown
  have hN := IsNums.ofOwn hown
  obtain ⟨p, c, rfl, -⟩ := id hN
  exact ⟨p, c, rfl, hN, hbel⟩
theorem most_is (v v1 : Value) (l yes : List Int) (w : World) (hv : IsNums .i64 w v l) (hy : IsNums .i64 w v1 yes) (hl : l.length ≤ 900) (hyl : yes.length ≤ 900) (b : Bool) (hb : decide ((canon l).length < 2 * votes (canon l) yes) = b) :
    Calls Try.prog 20 #[v, v1] w fun e w' => e = .returned (.bool b) ∧ Below w.heap.size w w' := by
  subst hb
  have := most_any v v1 l yes w hv hy hl hyl
  unfold mostB at this
  rw [ofL_canon] at this
  exact this
theorem right_is (v : Value) (l : List Int) (w : World) (hv : IsNums .i64 w v l) (hl : l.length ≤ 900) (b : Bool) (hb : rightB l = b) :
    Calls Try.prog 18 #[v] w fun e w' => e = .returned (.bool b) ∧ w = w' := by
  subst hb; exact right_any v l w hv hl
theorem has_is (v : Value) (l : List Int) (n : Int) (w : World) (hv : IsNums .i64 w v l) (hl : l.length ≤ 1000) (b : Bool) (hb : l.contains n = b) :
    Calls Try.prog 10 #[v, .int .i64 n] w fun e w' => e = .returned (.bool b) ∧ w = w' := by
  subst hb; exact has_any v l n w hv hl

theorem IsNums.cells3 {w : World} {p : Option Addr} {c : Nat} {x y z : Int} (h : IsNums .i64 w (.slice p 3 c) [x, y, z]) : ∃ b off, p = some ⟨b, off, none⟩ ∧ w.cell? ⟨b, off, none⟩ = some (.int .i64 x) ∧ w.cell? ⟨b, off + 2, none⟩ = some (.int .i64 z) := by
  obtain ⟨p', c', e, h | ⟨b, off, hp, hb, hc⟩⟩ := h
  · simp at h
  · injection e with e1 e2 e3
    refine ⟨b, off, by rw [e1, hp], ?_, ?_⟩
    · exact hc 0 (by simp)
    · exact hc 2 (by simp)

set_option maxRecDepth 100000 in
set_option maxHeartbeats 4000000 in
theorem known_true (w : World) : Calls Try.prog 7 #[] w fun e w' => e = .returned (.bool true) ∧ Below w.heap.size w w' := by
  go_enter Try.func7, Try.ntmps7
  go_wp2_with fail
  refine (of_is _ [2, 0, 9, 2, 1] _ (IsNums.lit .i64 w [2, 0, 9, 2, 1] _ _ _ _ rfl rfl) (by simp) [0, 1, 2] 3 (by decide) rfl).mono ?_
  rintro e w1 ⟨p, c, rfl, hN, hb⟩
  have hB : Below w.heap.size w w1 := ((Below.refl _ w).alloc (Nat.le_refl _) _).trans (hb.mono (by simp))
  obtain ⟨b, off, rfl, k0, k2⟩ := IsNums.cells3 hN
  have HN := Lib.hid hN
  clear hN hb
  go_wp2_with fail
  refine (right_is _ [0, 1, 2] _ HN.out (by simp) true (by decide)).mono ?_
  rintro e w' ⟨rfl, rfl⟩
  go_wp2_with fail
  refine (right_is _ [] _ (IsNums.nil .i64 w1 none 0) (by simp) false (by decide)).mono ?_
  rintro e w' ⟨rfl, rfl⟩
  go_wp2_with fail
  refine (most_is _ _ [0, 1, 2] [0, 2] _ (HN.out.alloc _) (IsNums.lit .i64 w1 [0, 2] _ _ _ _ rfl rfl) (by simp) (by simp) true (by decide)).mono ?_
  rintro e w2 ⟨rfl, hb2⟩
  have hb2' : Below w1.heap.size w1 w2 := ((Below.refl _ w1).alloc (Nat.le_refl _) _).trans (hb2.mono (by simp))
  have HN2 := Lib.hid (HN.out.below hb2' (Nat.le_refl _))
  have hB2 := hB.trans (hb2'.mono hB.size)
  clear hb2 hb2' HN hB k0 k2
  go_wp2_with fail
  refine (most_is _ _ [0, 1, 2] [1] _ (HN2.out.alloc _) (IsNums.lit .i64 w2 [1] _ _ _ _ rfl rfl) (by simp) (by simp) false (by decide)).mono ?_
  rintro e w3 ⟨rfl, hb3⟩
  have hb3' : Below w2.heap.size w2 w3 := ((Below.refl _ w2).alloc (Nat.le_refl _) _).trans (hb3.mono (by simp))
  have HN3 := Lib.hid (HN2.out.below hb3' (Nat.le_refl _))
  have hB3 := hB2.trans (hb3'.mono hB2.size)
  clear hb3 hb3' HN2 hB2
  go_wp2_with fail
  refine (most_is _ _ [] [] _ (IsNums.nil .i64 w3 none 0) (IsNums.nil .i64 w3 none 0) (by simp) (by simp) false (by decide)).mono ?_
  rintro e w4 ⟨rfl, hb4⟩
  have HN4 := Lib.hid (HN3.out.below hb4 (Nat.le_refl _))
  have hB4 := hB3.trans (hb4.mono hB3.size)
  clear hb4 HN3 hB3
  go_wp2_with fail
  refine (with_is _ [0, 1, 2] 5 _ HN4.out (by simp) [0, 1, 2, 5] 4 (by decide) rfl).mono ?_
  rintro e w5 ⟨p5, c5, rfl, -, hb5⟩
  have HN5 := Lib.hid (HN4.out.below hb5 (Nat.le_refl _))
  have hB5 := hB4.trans (hb5.mono hB4.size)
  clear hb5 HN4 hB4
  go_wp2_with fail
  refine (without_is _ [0, 1, 2] 0 _ HN5.out (by simp) [1, 2] 2 (by decide) rfl).mono ?_
  rintro e w6 ⟨p6, c6, rfl, -, hb6⟩
  have HN6 := Lib.hid (HN5.out.below hb6 (Nat.le_refl _))
  have hB6 := hB5.trans (hb6.mono hB5.size)
  clear hb6 HN5 hB5
  go_wp2_with fail
  refine (has_is _ [0, 1, 2] 1 _ HN6.out (by simp) true (by decide)).mono ?_
  rintro e w' ⟨rfl, rfl⟩
  go_wp2
  go_ret
  exact ⟨rfl, hB6⟩

end Go.Proofs.Ytdafkboojdjcoaa.K
