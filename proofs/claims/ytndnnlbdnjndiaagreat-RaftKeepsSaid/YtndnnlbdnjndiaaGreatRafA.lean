/- raft: who is in touch with a leader. -/
import Derived.Test.YtndnnlbdnjndiaaGreatRafB
namespace Go.Proofs.YtndnnlbdnjndiaaGreat.K
open Go.ChangeShapes Go.WideShapes Go.ChangeAt Go.RowKit
set_option linter.unusedVariables false
set_option linter.unusedSimpArgs false
def A0 : RS := newS 1 1 0 (-1) 0 0 [0, 1, 2] [] []
def aB (s : RS) : Bool :=
 tkB s && decide (s.x.te = 0) && decide (s.x.ro ≠ 2) && decide (s.x.ro ≠ 3) && decide (s.x.id = 1) && decide (s.x.gr = 1) && decide (s.x.be = 0) &&
 decide (s.x.n0 = 0) && decide (s.x.n1 = 0) && decide (s.x.n2 = 0) && decide (s.x.n3 = 0) && decide (s.x.n4 = 0) && decide (s.x.n5 = 0) && decide (s.x.n6 = 0) &&
 decide (s.x.m0 = 0) && decide (s.x.m1 = 0) && decide (s.x.m2 = 0) && decide (s.x.m3 = 0) && decide (s.x.m4 = 0) && decide (s.x.m5 = 0) && decide (s.x.m6 = 0) &&
 decide (s.x.co = 0) && decide (s.x.ap = 0) && decide (s.bi = 0) && decide (s.bt = 0) && decide (s.cf = [0, 1, 2]) && decide (s.bd = []) && s.es.isEmpty && s.ms.isEmpty && s.rs.isEmpty && decide (s.re = false)
def Af (t : Int) (ys : List Int) (j : Int) : RS := ⟨⟨1, 1, t, -1, 0, 0, 0, 0, 0, 0, 0, 0, 0, 0, 0, 0, 0, 0, 0, 0, 0, 0, 0, j⟩, 0, 0, [0, 1, 2], [], [], ys, [], [], false⟩
abbrev dnS (s : RS) (te : Int) : RS := hardS (withX s { s.x with ro := 0, le := -1, te := te, vo := -1 })
abbrev apS (s : RS) (te : Int) : RS := replyS (withX (dnS s te) { (dnS s te).x with ro := 0, le := 0, si := 0, co := max (dnS s te).x.co (min 0 (max ((0 : Int) + 0) (dnS s te).bi)) }) 0 6 true (max ((0 : Int) + 0) s.bi)
end Go.Proofs.YtndnnlbdnjndiaaGreat.K
