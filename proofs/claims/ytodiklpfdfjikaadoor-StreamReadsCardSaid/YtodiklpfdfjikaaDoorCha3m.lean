/- chain: what changed between two times, streams of a volume, what they are merged. -/
import Derived.Test.YtodiklpfdfjikaaDoorG5
namespace Go.Proofs.YtodiklpfdfjikaaDoor.K
open Go.ChangeShapes Go.WideShapes Go.ChangeAt Go.RowKit
set_option linter.unusedVariables false
set_option linter.unusedSimpArgs false
section
variable {P : Program} {n : Nat} {T : List (Nat × Value)} {a : Act} {w w0 : World} {X : Cx} {M : Mm}
end
def hitB (k : Nat) (xl : List PI) : Bool := xl.any (fun x => decide (x.1 = (k : Int)))
def chgB (ws : List PWr) (a b k : Nat) : Bool := ((ws.take b).drop a).any (fun e => hitB k e.2)
def segF (y : VolV) (fr : Int) (t : Nat) (k : Nat) : Option (List Int) := if decide (fr < 0) || chgB y.ws fr.toNat t k then some ((stL y.bl y.sz y.ws t).getD k []) else none
def segIt (y : VolV) (fr : Int) (t n : Nat) : List PI := (List.range n).filterMap (fun k => (segF y fr t k).map (fun d => ((k : Int), d)))
def seg (y : VolV) (fr : Int) (t : Nat) : StrV := ⟨y.bl, y.sz, fr, t, segIt y fr t y.bl.toNat⟩
/-! merged -/
def fmI (f : Nat → Option (List Int)) (ks : List Nat) : List PI := ks.filterMap (fun k => (f k).map (fun d => ((k : Int), d)))
def SegCh (y : VolV) : Int → List StrV → Prop
 | _, [] => True
 | fr, s :: l => ∃ t : Nat, fr.toNat ≤ t ∧ t ≤ y.ws.length ∧ s = seg y fr t ∧ SegCh y t l
def endT (fr : Int) (l : List StrV) : Int := match l.getLast? with | none => fr | some s => s.to
theorem endT_cons (fr : Int) (s : StrV) (l : List StrV) : endT fr (s :: l) = endT s.to l := by
 unfold endT
 cases l with
 | nil => rfl
 | cons x l => rw [List.getLast?_cons_cons]; cases h : (x :: l).getLast? with
   | none => simp at h
   | some z => rfl
theorem SegCh.snoc {y : VolV} {t : Nat} : ∀ {l : List StrV} {fr : Int}, SegCh y fr l → (endT fr l).toNat ≤ t → t ≤ y.ws.length → SegCh y fr (l ++ [seg y (endT fr l) t])
 | [], fr, _, h1, h2 => ⟨t, h1, h2, rfl, trivial⟩
 | s :: l, fr, ⟨u, a1, a2, a3, a4⟩, h1, h2 => by
   subst a3
   rw [endT_cons] at h1 ⊢
   exact ⟨u, a1, a2, rfl, SegCh.snoc a4 h1 h2⟩
end Go.Proofs.YtodiklpfdfjikaaDoor.K
