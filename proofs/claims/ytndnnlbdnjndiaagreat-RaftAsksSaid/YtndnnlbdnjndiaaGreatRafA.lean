/- raft: who is in touch with a leader. -/
import Derived.Test.YtndnnlbdnjndiaaGreatRafB
namespace Go.Proofs.YtndnnlbdnjndiaaGreat.K
open Go.ChangeShapes Go.WideShapes Go.ChangeAt Go.RowKit
set_option linter.unusedVariables false
set_option linter.unusedSimpArgs false
def A0 : RS := newS 1 1 0 (-1) 0 0 [0, 1, 2] [] []
def aB (s : RS) : Bool :=
 tkB s && decide (s.x.te = 0) && decide (s.x.ro ≠ 2) && decide (s.x.ro ≠ 3) && decide (s.x.id = 1) && decide (s.x.gr = 1) && decide (s.x.be = 0) &&
 decide (s.x.n0 = 0) && decide (s.x.n1 = 0) && decide (s.x.n2 = 0) && decide (s.x.n3 = 0) && decide (s.x.n4 = 0) && decide (s.x.n5 = 0) && decide (s.x.n6 = 0) &&
 decide (s.x.m0 = 0) && decide (s.x.m1 = 0) && decide (s.x.m2 = 0) && decide (s.x.m3 = 0) && decide (s.x.m4 = 0) && decide (s.x.m5 = 0) && decide (s.x.m6 = 0) &&
 decide (s.x.co = 0) && decide (s.x.ap = 0) && decide (s.bi = 0) && decide (s.bt = 0) && decide (s.cf = [0, 1, 2]) && decide (s.bd = []) && s.es.isEmpty && s.ms.isEmpty && s.rs.isEmpty && decide (s.re = false)
theorem A_ok : ∀ i, i < 60 → aB (tickN A0 i) = true := by decide +kernel
def Af (t : Int) (ys : List Int) (j : Int) : RS := ⟨⟨1, 1, t, -1, 0, 0, 0, 0, 0, 0, 0, 0, 0, 0, 0, 0, 0, 0, 0, 0, 0, 0, 0, j⟩, 0, 0, [0, 1, 2], [], [], ys, [], [], false⟩
abbrev dnS (s : RS) (te : Int) : RS := hardS (withX s { s.x with ro := 0, le := -1, te := te, vo := -1 })
abbrev apS (s : RS) (te : Int) : RS := replyS (withX (dnS s te) { (dnS s te).x with ro := 0, le := 0, si := 0, co := max (dnS s te).x.co (min 0 (max ((0 : Int) + 0) (dnS s te).bi)) }) 0 6 true (max ((0 : Int) + 0) s.bi)
theorem aB_out {s : RS} (h : aB s = true) : tkB s = true ∧ ROk s ∧ s.x.te = 0 ∧ s.x.ro ≠ 2 ∧ s.x.ro ≠ 3 ∧ s.x.id = 1 ∧ s.x.gr = 1 ∧ s.rs = [] ∧ (s.bi ≤ 0 → (0 : Int) ≤ s.bi + s.es.length ∧ termS s 0 = 0) ∧ ∀ te, clrS (apS s te) = Af te s.ys 0 := by
 obtain ⟨⟨_, _, _, _, _, _, _, _, _, _, _, _, _, _, _, _, _, _, _, _, _, _, _, _⟩, _, _, _, _, _, _, _, _, _⟩ := s
 simp only [aB, Bool.and_eq_true, decide_eq_true_eq, List.isEmpty_iff] at h
 obtain ⟨⟨⟨⟨⟨⟨⟨⟨⟨⟨⟨⟨⟨⟨⟨⟨⟨⟨⟨⟨⟨⟨⟨⟨⟨⟨⟨⟨⟨⟨h0, rfl⟩, h2⟩, h3⟩, rfl⟩, rfl⟩, rfl⟩, rfl⟩, rfl⟩, rfl⟩, rfl⟩, rfl⟩, rfl⟩, rfl⟩, rfl⟩, rfl⟩, rfl⟩, rfl⟩, rfl⟩, rfl⟩, rfl⟩, rfl⟩, rfl⟩, rfl⟩, rfl⟩, rfl⟩, rfl⟩, rfl⟩, rfl⟩, rfl⟩, rfl⟩ := h
 exact ⟨h0, (tkB_ok h0).1, rfl, h2, h3, rfl, rfl, rfl, fun _ => ⟨by show (0 : Int) ≤ 0 + ((0 : Nat) : Int); decide, rfl⟩, fun te => rfl⟩
theorem Af_ok (t : Int) (ys : List Int) (j : Nat) (ht : 0 ≤ t ∧ t ≤ 100) (hy : ys.length ≤ 800) (hj : j ≤ 100) : ROk (Af t ys (j : Int)) :=
 ⟨⟨by show (-1000000000000000 : Int) ≤ 0 ∧ (0 : Int) ≤ 1000000000000000; decide, by show 3 ≤ 900; decide, by show 0 ≤ 100000; decide, by show 0 ≤ 100000; decide, by intro e he; cases he⟩, by show 0 < 90000; decide, by show (-1000000000 : Int) ≤ 0 ∧ (0 : Int) ≤ 1000000000; decide, by show (0 : Int) + ((0 : Nat) : Int) - 0 ≤ 900; decide, by show 0 ≤ 800000; decide, by show 0 ≤ 800000; decide, by show 0 ≤ t ∧ t ≤ 1000000000000000; omega, by show (0 : Int) ≤ 1 ∧ (1 : Int) ≤ 6; decide, by show -1000000000000000 ≤ (j : Int) ∧ (j : Int) ≤ 1000000000000000; omega, by show (-1000000000000000 : Int) ≤ 0 ∧ (0 : Int) ≤ 1000000000000000; decide, hy⟩
theorem tmo_ge (n t : Int) : 10 ≤ tmo n t := by unfold tmo; omega
theorem Af_tick (t : Int) (ys : List Int) (j : Nat) (hj : j < 9) : clrS (tickS (Af t ys (j : Int))) = Af t ys ((j + 1 : Nat) : Int) := by
 have h := tmo_ge 1 t
 rw [tick_wait (Af t ys (j : Int)) (by show ¬ (0 : Int) = 3; decide) (by show (j : Int) + 1 < tmo 1 t; omega)]
 rfl
end Go.Proofs.YtndnnlbdnjndiaaGreat.K
