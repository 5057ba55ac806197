/- raft: the small methods over the whole state. -/
import Derived.Test.YtndnnlbdnjndiaaGreatRafS
namespace Go.Proofs.YtndnnlbdnjndiaaGreat.K
open Go.ChangeShapes Go.WideShapes Go.ChangeAt Go.RowKit
set_option linter.unusedVariables false
set_option linter.unusedSimpArgs false

set_option maxRecDepth 100000
set_option maxHeartbeats 4000000
structure RIs (w : World) (R : Nat) (s : RS) (p : RP) : Prop where
 r : Blk w R 86 (raC s.x p.L (.slice p.py s.ys.length p.cy) (.slice p.pm (s.ms.map rmD).length p.cm) (.slice p.pq (s.rs.map rrD).length p.cq) s.re)
 b : Blk w p.L 123 [.int .i64 s.bi, .int .i64 s.bt, .slice p.pc s.cf.length p.cc, .slice p.pd s.bd.length p.cd, .slice p.pl (s.es.map entD).length p.cl]
 l : Rd (fun _ => True) w (.slice p.pl (s.es.map entD).length p.cl) (.l 4 (s.es.map entD))
 c : Rd (fun _ => True) w (.slice p.pc s.cf.length p.cc) (.ns .i64 s.cf)
 d : Rd (fun _ => True) w (.slice p.pd s.bd.length p.cd) (.ns .u8 s.bd)
 y : Rd (fun _ => True) w (.slice p.py s.ys.length p.cy) (.ns .i64 s.ys)
theorem rfM_is {X : Cx} {w0 w : World} {R : Nat} (s : RS) (p : RP) (m : MemOk X w0 (rfM R s p) w) : RIs w R s p :=
 ⟨(m.ok 1 _ rfl : Res.ok _ _ _ _ (.box _ _ _)).1, (m.ok 2 _ rfl : Res.ok _ _ _ _ (.box _ _ _)).1,
  (m.ok 3 _ rfl : Res.ok _ _ _ _ (.seg _ _ _ _)).1.rd (S' := fun _ => True) (fun _ _ _ => trivial) (fun _ _ => trivial),
  (m.rd (i := 4) rfl).any, (m.rd (i := 5) rfl).any, (m.rd (i := 6) rfl).any⟩
theorem rRole (X : Cx) (R : Nat) (s : RS) (p : RP) (w0 : World) (m0 : MemOk X w0 (rfM R s p) w0) :
   Calls Tryz.prog 29 #[.pointer (some ⟨R, 0, none⟩)] w0 fun e w' => e = .returned (.int .i64 s.x.ro) ∧ MemOk X w0 (rfM R s p) w' := by
 refine (rrole_x _ R p.L s.x _ _ _ _ _ _ _ _ _ s.re _ (m0.into [(1, 1)] (by decide) rfl)).mono ?_
 rintro e w' ⟨rfl, hm⟩
 have mb := m0.back hm [(1, 1)] (by decide)
 exact ⟨rfl, mb.only [1, 2, 3, 4, 5, 6, 7, 8]⟩
theorem rTerm (X : Cx) (R : Nat) (s : RS) (p : RP) (w0 : World) (m0 : MemOk X w0 (rfM R s p) w0) :
   Calls Tryz.prog 30 #[.pointer (some ⟨R, 0, none⟩)] w0 fun e w' => e = .returned (.int .i64 s.x.te) ∧ MemOk X w0 (rfM R s p) w' := by
 refine (rterm_x _ R p.L s.x _ _ _ _ _ _ _ _ _ s.re _ (m0.into [(1, 1)] (by decide) rfl)).mono ?_
 rintro e w' ⟨rfl, hm⟩
 have mb := m0.back hm [(1, 1)] (by decide)
 exact ⟨rfl, mb.only [1, 2, 3, 4, 5, 6, 7, 8]⟩
theorem rLead (X : Cx) (R : Nat) (s : RS) (p : RP) (w0 : World) (m0 : MemOk X w0 (rfM R s p) w0) :
   Calls Tryz.prog 33 #[.pointer (some ⟨R, 0, none⟩)] w0 fun e w' => e = .returned (.int .i64 s.x.le) ∧ MemOk X w0 (rfM R s p) w' := by
 refine (rlead_x _ R p.L s.x _ _ _ _ _ _ _ _ _ s.re _ (m0.into [(1, 1)] (by decide) rfl)).mono ?_
 rintro e w' ⟨rfl, hm⟩
 have mb := m0.back hm [(1, 1)] (by decide)
 exact ⟨rfl, mb.only [1, 2, 3, 4, 5, 6, 7, 8]⟩
theorem rCommit (X : Cx) (R : Nat) (s : RS) (p : RP) (w0 : World) (m0 : MemOk X w0 (rfM R s p) w0) :
   Calls Tryz.prog 26 #[.pointer (some ⟨R, 0, none⟩)] w0 fun e w' => e = .returned (.int .i64 s.x.co) ∧ MemOk X w0 (rfM R s p) w' := by
 refine (rcommit_x _ R p.L s.x _ _ _ _ _ _ _ _ _ s.re _ (m0.into [(1, 1)] (by decide) rfl)).mono ?_
 rintro e w' ⟨rfl, hm⟩
 have mb := m0.back hm [(1, 1)] (by decide)
 exact ⟨rfl, mb.only [1, 2, 3, 4, 5, 6, 7, 8]⟩
theorem rsaveHard_s (X : Cx) (R : Nat) (s : RS) (p : RP) (w0 : World) (hQ : s.rs.length ≤ 1000000) (m0 : MemOk X w0 (rfM R s p) w0) :
   Calls Tryz.prog 135 #[.pointer (some ⟨R, 0, none⟩)] w0 fun e w' => ∃ p', e = .returned (.tuple #[]) ∧ MemOk X w0 (rfM R (hardS s) p') w' := by
 refine (rsaveHard_x _ R p.L s.x _ _ s.re s.rs _ _ _ hQ (m0.into [(1, 1), (8, 8)] (by decide) rfl)).mono ?_
 rintro e w' ⟨q, c, rfl, hm⟩
 have mb := m0.back hm [(1, 1), (8, 8)] (by decide)
 exact ⟨{ p with pq := q, cq := c }, rfl, mb.only [1, 2, 3, 4, 5, 6, 7, 8]⟩
theorem rrun_s (X : Cx) (R : Nat) (s : RS) (p : RP) (ro : Int) (w0 : World) (m0 : MemOk X w0 (rfM R s p) w0) :
   Calls Tryz.prog 89 #[.pointer (some ⟨R, 0, none⟩), .int .i64 ro] w0 fun e w' => ∃ p', e = .returned (.tuple #[]) ∧ MemOk X w0 (rfM R (runS s ro) p') w' := by
 refine (rrun_x _ R p.L s.x _ _ _ _ _ _ _ _ _ s.re _ ro (m0.into [(1, 1)] (by decide) rfl)).mono ?_
 rintro e w' ⟨q, c, rfl, hm⟩
 have mb := m0.back hm [(1, 1), (6, 6)] (by decide)
 have mc := mb.freezeN 6 rfl
 exact ⟨{ p with py := q, cy := c }, rfl, mc.only [1, 2, 3, 4, 5, 6, 7, 8]⟩
end Go.Proofs.YtndnnlbdnjndiaaGreat.K
