/- raft: the members 0 .. k - 1, what PreOk and VoteOk of all of them make; what a leader says. -/
import Derived.Test.YtndnnlbdnjndiaaGreatRafN
namespace Go.Proofs.YtndnnlbdnjndiaaGreat.K
open Go.ChangeShapes Go.WideShapes Go.ChangeAt Go.RowKit
set_option linter.unusedVariables false
set_option linter.unusedSimpArgs false
def upL (k : Nat) : List Int := (List.range k).map fun (n : Nat) => (n : Int)
theorem upL_len (k : Nat) : (upL k).length = k := by simp [upL]
theorem upL_snoc (k : Nat) : upL k ++ [(k : Int)] = upL (k + 1) := by simp [upL, List.range_succ]
abbrev poS (s : RS) (i : Int) : RS := clrS (preOkS s i 1)
abbrev voS (s : RS) (i : Int) : RS := clrS (voteOkS s i true)
def preN (s : RS) : Nat → RS
 | 0 => s
 | j + 1 => poS (preN s j) ((j : Int) + 1)
def votN (s : RS) : Nat → RS
 | 0 => s
 | j + 1 => voS (votN s j) ((j : Int) + 1)
def B0 (gr : Int) (k : Nat) : RS := newS 0 gr 0 (-1) 0 0 (upL k) [] []
def B1 (gr : Int) (k : Nat) : RS := tickN (B0 gr k) 10
def B2 (gr : Int) (k : Nat) : RS := preN (B1 gr k) (k - 1)
def B3 (gr : Int) (k : Nat) : RS := votN (B2 gr k) (k - 1)
theorem B0_ok : ∀ gr : Fin 3, ∀ k, k < 7 → 2 ≤ k → ∀ j, j < 10 → tkB (tickN (B0 (gr.val : Int) k) j) = true := by decide +kernel
def rcB (gr : Int) (s : RS) : Bool := rokB s && decide (s.x.gr = gr) && decide (s.x.id = 0)
theorem rcB_ok {gr : Int} {s : RS} (h : rcB gr s = true) : ROk s ∧ s.x.gr = gr ∧ s.x.id = 0 := by
 simp only [rcB, Bool.and_eq_true, decide_eq_true_eq] at h
 exact ⟨rokB_ok h.1.1, h.1.2, h.2⟩
theorem B1_ok : ∀ gr : Fin 3, ∀ k, k < 7 → 2 ≤ k → ∀ j, j < k → rcB (gr.val : Int) (preN (B1 (gr.val : Int) k) j) = true := by decide +kernel
theorem B2_ok : ∀ gr : Fin 3, ∀ k, k < 7 → 2 ≤ k → ∀ j, j < k → (rcB (gr.val : Int) (votN (B2 (gr.val : Int) k) j) && decide ((votN (B2 (gr.val : Int) k) j).x.te = 1)) = true := by decide +kernel
theorem B0_ok1 (k : Nat) (h1 : k < 7) (h2 : 2 ≤ k) (j : Nat) (hj : j < 10) : tkB (tickN (B0 1 k) j) = true := B0_ok 1 k h1 h2 j hj
theorem B1_ok1 (k : Nat) (h1 : k < 7) (h2 : 2 ≤ k) (j : Nat) (hj : j < k) : ROk (preN (B1 1 k) j) ∧ (preN (B1 1 k) j).x.gr = 1 ∧ (preN (B1 1 k) j).x.id = 0 := rcB_ok (B1_ok 1 k h1 h2 j hj)
theorem B2_ok1 (k : Nat) (h1 : k < 7) (h2 : 2 ≤ k) (j : Nat) (hj : j < k) : ROk (votN (B2 1 k) j) ∧ (votN (B2 1 k) j).x.gr = 1 ∧ (votN (B2 1 k) j).x.id = 0 ∧ (votN (B2 1 k) j).x.te = 1 := by
 have h := B2_ok 1 k h1 h2 j hj
 rw [Bool.and_eq_true, decide_eq_true_eq] at h
 have h9 := rcB_ok h.1
 exact ⟨h9.1, h9.2.1, h9.2.2, h.2⟩
def m0 : RM := ⟨0, 0, 0, 0, 0, 0, 0, 0, false, [], 0, 0, [], [], [], 0, 0, 0, 0⟩
def beatB (k j : Nat) : Bool :=
 let s := tickN (B3 2 k) j
 let l := (tickS s).ms
 tkB s && decide (s.x.ro = 3) && decide (l.length = if (j + 1) % 2 = 1 then 0 else k - 1) && (List.range l.length).all fun i =>
   let m := l.getD i m0
   decide (m.k = 5) && decide (m.t = (i : Int) + 1) && decide (m.g = 2) && decide (m.te = 1) && decide (m.es.length = 1)
end Go.Proofs.YtndnnlbdnjndiaaGreat.K
