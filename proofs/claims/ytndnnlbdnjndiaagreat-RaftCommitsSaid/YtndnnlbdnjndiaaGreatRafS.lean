/- raft: what a member is and what each call makes of it, as functions of data. -/
import Derived.Test.YtndnnlbdnjndiaaGreatRaf4
import Derived.Test.YtndnnlbdnjndiaaGreatG3
import Derived.Test.YtndnnlbdnjndiaaGreatRafE
import Derived.Test.YtndnnlbdnjndiaaGreatRafC
namespace Go.Proofs.YtndnnlbdnjndiaaGreat.K
open Go.ChangeShapes Go.WideShapes Go.ChangeAt Go.RowKit
set_option linter.unusedVariables false
set_option linter.unusedSimpArgs false
theorem ret0r {P : Program} {n : Nat} {T : List (Tmp × Value)} {a : Act} {w : World} (ha : Has n T a) {fn : Func} {R : Ending → World → Prop} (hr : fn.results = #[]) (h : R (.returned (.tuple #[])) w) : bodyPost P fn R .ret a w :=
 ⟨ha.d, _, results_none hr _ _ _, h⟩
theorem retCTT {P : Program} {n : Nat} {T : List (Nat × Value)} {a : Act} {w w0 : World} {X : Cx} {M : Mm} (ha : Has n T a) (m : MemOk X w0 M w) {fn : Func} {t s r : Tmp} {ty : TypeId} {td : TypeDesc} {i g : Nat} {e : TypeId} {cs : List Value} {u v : Value} {R : Ending → World → Prop} (hr : fn.results = #[.cell t ty, .tmp s, .tmp r]) (hv : lk T t = some (.pointer (some ⟨g, 0, none⟩))) (hu2 : lk T s = some u) (hu3 : lk T r = some v) (hm : lk M i = some (.box g e cs)) (hu : P.underlying ty = some td) (hd : td.isRow = true) (hs : (P.info? ty).map (·.size) = some cs.length) (h : R (.returned (.tuple #[.agg cs.toArray, u, v])) w) : bodyPost P fn R .ret a w :=
 ⟨ha.d, _, by
   have h1 := ha.h t _ hv
   have h2 := ha.h s _ hu2
   have h3 := ha.h r _ hu3
   rw [Array.getD_eq_getD_getElem?] at h1 h2 h3
   simp [results, hr, h1, h2, h3, asAddr, run_loadBox m hm hu hd hs], h⟩
structure RS where
 x : RV
 bi : Int
 bt : Int
 cf : List Int
 bd : List Int
 es : List En
 ys : List Int
 ms : List RM
 rs : List RR
 re : Bool
structure RP where
 L : Nat
 pc : Option Addr
 pd : Option Addr
 pl : Option Addr
 py : Option Addr
 pm : Option Addr
 pq : Option Addr
 cc : Nat
 cd : Nat
 cl : Nat
 cy : Nat
 cm : Nat
 cq : Nat
abbrev rfM (R : Nat) (s : RS) (p : RP) : Mm :=
 [(1, .box R 86 (raC s.x p.L (.slice p.py s.ys.length p.cy) (.slice p.pm (s.ms.map rmD).length p.cm) (.slice p.pq (s.rs.map rrD).length p.cq) s.re)),
  (2, .box p.L 123 [.int .i64 s.bi, .int .i64 s.bt, .slice p.pc s.cf.length p.cc, .slice p.pd s.bd.length p.cd, .slice p.pl (s.es.map entD).length p.cl]),
  (3, .seg (.slice p.pl (s.es.map entD).length p.cl) 62 4 (s.es.map entD)),
  (4, .dat (.slice p.pc s.cf.length p.cc) (.ns .i64 s.cf)),
  (5, .dat (.slice p.pd s.bd.length p.cd) (.ns .u8 s.bd)),
  (6, .dat (.slice p.py s.ys.length p.cy) (.ns .i64 s.ys)),
  (7, .seg (.slice p.pm (s.ms.map rmD).length p.cm) 55 19 (s.ms.map rmD)),
  (8, .seg (.slice p.pq (s.rs.map rrD).length p.cq) 118 12 (s.rs.map rrD))]
structure RLB (bi : Int) (cf bd : List Int) (es : List En) : Prop where
 b : -1000000000000000 ≤ bi ∧ bi ≤ 1000000000000000
 c : cf.length ≤ 900
 d : bd.length ≤ 100000
 n : es.length ≤ 100000
 e : ∀ e ∈ es, e.2.2.2.length ≤ 100000 ∧ ByteL e.2.2.2
theorem RLB.snoc {bi : Int} {cf bd : List Int} {es : List En} (h : RLB bi cf bd es) (hn : es.length < 100000) {i t k : Int} {d : List Int} (hd : d.length ≤ 100000) (hb : ByteL d) : RLB bi cf bd (es ++ [(i, t, k, d)]) := by
 refine ⟨h.b, h.c, h.d, by rw [List.length_append]; simp; omega, fun e he => ?_⟩
 rcases List.mem_append.1 he with he | he
 · exact h.e e he
 · rw [List.mem_singleton] at he; subst he; exact ⟨hd, hb⟩
abbrev RLS (s : RS) : Prop := RLB s.bi s.cf s.bd s.es
def nx (x : RV) (n : Int) : Int := if n = 0 then x.n0 else if n = 1 then x.n1 else if n = 2 then x.n2 else if n = 3 then x.n3 else if n = 4 then x.n4 else if n = 5 then x.n5 else x.n6
def mx (x : RV) (n : Int) : Int := if n = 0 then x.m0 else if n = 1 then x.m1 else if n = 2 then x.m2 else if n = 3 then x.m3 else if n = 4 then x.m4 else if n = 5 then x.m5 else x.m6
def setN (x : RV) (n v : Int) : RV := if n = 0 then { x with n0 := v } else if n = 1 then { x with n1 := v } else if n = 2 then { x with n2 := v } else if n = 3 then { x with n3 := v } else if n = 4 then { x with n4 := v } else if n = 5 then { x with n5 := v } else { x with n6 := v }
def setM (x : RV) (n v : Int) : RV := if n = 0 then { x with m0 := v } else if n = 1 then { x with m1 := v } else if n = 2 then { x with m2 := v } else if n = 3 then { x with m3 := v } else if n = 4 then { x with m4 := v } else if n = 5 then { x with m5 := v } else { x with m6 := v }
def lastS (s : RS) : Int := s.bi + s.es.length
def memS (s : RS) : List Int := canon (confL s.cf s.es (lastS s))
def othS (s : RS) : List Int := (canon (memS s)).filter fun x => decide (x ≠ s.x.id)
def favS (s : RS) : Bool := mostC (memS s) s.ys
def termS (s : RS) (i : Int) : Int := termL s.bi s.bt s.es i
abbrev toM (s : RS) (n : Int) (m : RM) : RM := { m with g := s.x.gr, f := s.x.id, t := n }
abbrev addM (s : RS) (l : List RM) : RS := { s with ms := s.ms ++ l }
abbrev addR (s : RS) (r : RR) : RS := { s with rs := s.rs ++ [{ r with g := s.x.gr }] }
abbrev withX (s : RS) (x : RV) : RS := { s with x := x }
abbrev runS (s : RS) (ro : Int) : RS := { s with x := { s.x with ro := ro, le := -1 }, ys := [s.x.id] }
def canvM (s : RS) (kd te : Int) : RM := ⟨kd, 0, 0, 0, te, lastS s, termS s (lastS s), 0, false, [], 0, 0, [], [], [], 0, 0, 0, 0⟩
def canvS (s : RS) (kd te : Int) : RS := addM s ((othS s).map fun n => toM s n (canvM s kd te))
def wordM (s : RS) (n : Int) : RM := ⟨5, 0, 0, 0, s.x.te, nx s.x n - 1, termS s (nx s.x n - 1), s.x.co, false, fromL s.bi s.es (nx s.x n) 4, 0, 0, [], [], [], 0, 0, 0, 0⟩
def wordS (s : RS) (n : Int) : RS := addM s [toM s n (wordM s n)]
def tellS (s : RS) : RS := addM s ((othS s).map fun n => toM s n (wordM s n))
def matchL (s : RS) : List Int := (memS s).map fun n => if n = s.x.id then lastS s else mx s.x n
def termsL (s : RS) : List Int := (List.range (lastS s - s.x.co).toNat).map fun (i : Nat) => termS s (s.x.co + 1 + (i : Int))
def commS (s : RS) : Int := commitC s.x.te s.x.co (matchL s) (termsL s)
def countS (s : RS) : RS := withX s { s.x with co := commS s }
def entR (e : En) : RR := ⟨0, 2, 0, 0, e.1, e.2.1, e.2.2.1, e.2.2.2, 0, 0, [], []⟩
def newE (s : RS) (kd : Int) (d : List Int) : En := (lastS s + 1, s.x.te, kd, d)
def addE (s : RS) (kd : Int) (d : List Int) : RS := addR { s with es := s.es ++ [newE s kd d] } (entR (newE s kd d))
def addS (s : RS) (kd : Int) (d : List Int) : RS := countS (addE s kd d)
abbrev begX (x : RV) (last : Int) : RV := { x with be := 0, n0 := last + 1, n1 := last + 1, n2 := last + 1, n3 := last + 1, n4 := last + 1, n5 := last + 1, n6 := last + 1, m0 := 0, m1 := 0, m2 := 0, m3 := 0, m4 := 0, m5 := 0, m6 := 0 }
def winS (s : RS) : RS := tellS (addS (withX s (begX { s.x with ro := 3, le := s.x.id } (lastS s))) 0 [])
def hardS (s : RS) : RS := addR s (hardR s.x)
def standS (s : RS) : RS :=
 let s1 := runS (hardS (withX s { s.x with te := s.x.te + 1, vo := s.x.id })) 2
 if favS s1 then winS s1 else canvS s1 3 s1.x.te
def askS (s : RS) : RS := let s1 := runS s 1; if favS s1 then standS s1 else canvS s1 1 (s1.x.te + 1)
def tickS (s : RS) : RS :=
 if s.x.ro = 3 then
   let s1 := withX s { s.x with be := s.x.be + 1 }
   if s1.x.be.tmod 2 = 0 then tellS s1 else s1
 else
   let s1 := withX s { s.x with si := s.x.si + 1 }
   if (memS s1).contains s.x.id = true ∧ tmo s.x.id s.x.te ≤ s1.x.si then askS (withX s1 { s1.x with si := 0 }) else s1
end Go.Proofs.YtndnnlbdnjndiaaGreat.K
