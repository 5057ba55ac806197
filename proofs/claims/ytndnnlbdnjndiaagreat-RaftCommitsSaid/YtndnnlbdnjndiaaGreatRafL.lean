/- raft: which states may be asked, as a check; what ticks make. -/
import Derived.Test.YtndnnlbdnjndiaaGreatRafR
namespace Go.Proofs.YtndnnlbdnjndiaaGreat.K
open Go.ChangeShapes Go.WideShapes Go.ChangeAt Go.RowKit
set_option linter.unusedVariables false
set_option linter.unusedSimpArgs false
def rokB (s : RS) : Bool :=
 decide (-1000000000000000 ≤ s.bi ∧ s.bi ≤ 1000000000000000) && decide (s.cf.length ≤ 900) && decide (s.bd.length ≤ 100000) && decide (s.es.length < 90000) &&
 (s.es.all fun e => decide (e.2.2.2.length ≤ 100000) && e.2.2.2.all fun z => decide (0 ≤ z) && decide (z ≤ 255)) &&
 decide (-1000000000 ≤ s.x.co ∧ s.x.co ≤ 1000000000) && decide (lastS s - s.x.co ≤ 900) && decide (s.ms.length ≤ 800000) && decide (s.rs.length ≤ 800000) &&
 decide (0 ≤ s.x.te ∧ s.x.te ≤ 1000000000000000) && decide (0 ≤ s.x.id ∧ s.x.id ≤ 6) && decide (-1000000000000000 ≤ s.x.si ∧ s.x.si ≤ 1000000000000000) &&
 decide (-1000000000000000 ≤ s.x.be ∧ s.x.be ≤ 1000000000000000) && decide (s.ys.length ≤ 800)
theorem rokB_ok {s : RS} (h : rokB s = true) : ROk s := by
 simp only [rokB, Bool.and_eq_true, decide_eq_true_eq, List.all_eq_true] at h
 obtain ⟨⟨⟨⟨⟨⟨⟨⟨⟨⟨⟨⟨⟨h0, h1⟩, h2⟩, h3⟩, h4⟩, h5⟩, h6⟩, h7⟩, h8⟩, h9⟩, h10⟩, h11⟩, h12⟩, h13⟩ := h
 exact ⟨⟨h0, h1, h2, by omega, fun e he => ⟨(h4 e he).1, fun z hz => (h4 e he).2 z hz⟩⟩, h3, h5, h6, h7, h8, h9, h10, h11, h12, h13⟩
def nxB (s : RS) : Bool := (othS s).all fun n => decide (s.bi < nx s.x n) && decide (nx s.x n ≤ 1000000000000000000)
theorem nxB_ok {s : RS} (h : nxB s = true) : ∀ n ∈ othS s, s.bi < nx s.x n ∧ nx s.x n ≤ 1000000000000000000 := by
 simp only [nxB, List.all_eq_true, Bool.and_eq_true, decide_eq_true_eq] at h
 exact h
abbrev tkS (s : RS) : RS := clrS (tickS s)
def tickN (s : RS) : Nat → RS
 | 0 => s
 | j + 1 => tkS (tickN s j)
def tkB (s : RS) : Bool := rokB s && (decide (s.x.ro ≠ 3) || nxB s)
theorem tkB_ok {s : RS} (h : tkB s = true) : ROk s ∧ (s.x.ro = 3 → ∀ n ∈ othS s, s.bi < nx s.x n ∧ nx s.x n ≤ 1000000000000000000) := by
 simp only [tkB, Bool.and_eq_true, Bool.or_eq_true, decide_eq_true_eq] at h
 exact ⟨rokB_ok h.1, fun h3 => h.2.elim (fun h9 => absurd h3 h9) nxB_ok⟩
def K0 : RS := newS 0 1 0 (-1) 0 0 [0] [] []
theorem K0_ok : ∀ j, j < 10 → tkB (tickN K0 j) = true := by decide +kernel
def K10 : RS := ⟨⟨0, 1, 1, 0, 0, 1, 1, 1, 1, 1, 1, 1, 0, 0, 0, 0, 0, 0, 0, 3, 0, 1, 0, 0⟩, 0, 0, [0], [], [(1, 1, 0, [])], [0], [], [], false⟩
theorem K10_is : tickN K0 10 = K10 := by kernel_rfl
def K11 : RS := ⟨⟨0, 1, 1, 0, 0, 1, 1, 1, 1, 1, 1, 1, 0, 0, 0, 0, 0, 0, 0, 3, 0, 2, 0, 0⟩, 0, 0, [0], [], [(1, 1, 0, []), (2, 1, 1, [97])], [0], [], [], false⟩
theorem K11_is : clrS (tellS (addS K10 1 [97])) = K11 := by kernel_rfl
def K12 : RS := withX K11 { K11.x with ap := 2 }
theorem K12_is : withX K11 { K11.x with ap := K11.x.co } = K12 := by kernel_rfl
end Go.Proofs.YtndnnlbdnjndiaaGreat.K
