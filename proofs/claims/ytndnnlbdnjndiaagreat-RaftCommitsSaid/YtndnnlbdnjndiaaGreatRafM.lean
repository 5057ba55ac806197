/- raft: what a member is, as data. -/
import Derived.Test.YtndnnlbdnjndiaaGreatG2
namespace Go.Proofs.YtndnnlbdnjndiaaGreat.K
open Go.ChangeShapes Go.WideShapes Go.ChangeAt Go.RowKit
set_option linter.unusedVariables false
set_option linter.unusedSimpArgs false
structure RV where
 id : Int
 gr : Int
 te : Int
 vo : Int
 be : Int
 n0 : Int
 n1 : Int
 n2 : Int
 n3 : Int
 n4 : Int
 n5 : Int
 n6 : Int
 m0 : Int
 m1 : Int
 m2 : Int
 m3 : Int
 m4 : Int
 m5 : Int
 m6 : Int
 ro : Int
 le : Int
 co : Int
 ap : Int
 si : Int
abbrev raC (x : RV) (L : Nat) (ys ms rs : Value) (re : Bool) : List Value :=
 [.int .i64 x.id, .int .i64 x.gr, .int .i64 x.te, .int .i64 x.vo, .pointer (some ⟨L, 0, none⟩), .int .i64 x.be,
  .int .i64 x.n0, .int .i64 x.n1, .int .i64 x.n2, .int .i64 x.n3, .int .i64 x.n4, .int .i64 x.n5, .int .i64 x.n6,
  .int .i64 x.m0, .int .i64 x.m1, .int .i64 x.m2, .int .i64 x.m3, .int .i64 x.m4, .int .i64 x.m5, .int .i64 x.m6,
  .int .i64 x.ro, .int .i64 x.le, .int .i64 x.co, .int .i64 x.ap, .int .i64 x.si, ys, ms, rs, .bool re]
abbrev En := Int × Int × Int × List Int
structure RM where
 k : Int
 g : Int
 f : Int
 t : Int
 te : Int
 ix : Int
 lt : Int
 co : Int
 ok : Bool
 es : List En
 bi : Int
 bt : Int
 cf : List Int
 bd : List Int
 da : List Int
 vo : Int
 ch : Int
 ma : Int
 fl : Int
def rmD (m : RM) : List D :=
 [.v (.int .i64 m.k), .v (.int .i64 m.g), .v (.int .i64 m.f), .v (.int .i64 m.t), .v (.int .i64 m.te), .v (.int .i64 m.ix), .v (.int .i64 m.lt), .v (.int .i64 m.co), .v (.bool m.ok),
  .l 4 (m.es.map entD), .v (.int .i64 m.bi), .v (.int .i64 m.bt), .ns .i64 m.cf, .ns .u8 m.bd, .ns .u8 m.da, .v (.int .i64 m.vo), .v (.int .i64 m.ch), .v (.int .i64 m.ma), .v (.int .i64 m.fl)]
structure RR where
 g : Int
 k : Int
 te : Int
 vo : Int
 ei : Int
 et : Int
 ek : Int
 ed : List Int
 bi : Int
 bt : Int
 cf : List Int
 bd : List Int
def rrD (r : RR) : List D :=
 [.v (.int .i64 r.g), .v (.int .i64 r.k), .v (.int .i64 r.te), .v (.int .i64 r.vo), .v (.int .i64 r.ei), .v (.int .i64 r.et), .v (.int .i64 r.ek), .ns .u8 r.ed, .v (.int .i64 r.bi), .v (.int .i64 r.bt), .ns .i64 r.cf, .ns .u8 r.bd]
end Go.Proofs.YtndnnlbdnjndiaaGreat.K
