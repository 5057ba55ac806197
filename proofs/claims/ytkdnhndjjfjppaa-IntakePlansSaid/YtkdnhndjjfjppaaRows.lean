/-
  No cell of these rows narrows 'for every input' (looked for: loops, veiled, ifaces, maps, wideKeys, modest, calm, conditions, laid).
  DERIVED. THE GIVEN ROWS OF THIS SEAT. 4 by the template 'for every input the law returns true; each argument reads behind the call as it read before'; 0 by the template 'total and deterministic' (their statements: YtkdnhndjjfjppaaTotals.lean).
  GIVEN WITH THE SEED: the statements are not yours to turn. If you find one false, say at which input.
  Laid BY PROGRAM, IN A SANDBOX (cutbox-rows.mjs): the forced cells as the released guide's own fill.sh prints them over the translation f3dd10d886ee8c31… (all of the seat's roots in one cut). By AI agents, Wed Nov 11 2026. No macro, syntax, notation, axiom, sorry.
-/
import Derived.Test.YtkdnhndjjfjppaaChecked
import GoSem.Claim
import GoSem.ClaimJoined
import GoSem.ClaimMapViews
import Derived.JoinedTies
import Derived.KernelRfl
namespace Go.Proofs.Ytkdnhndjjfjppaa
/- THE CELL 'sum', in the pinned program and in every row, IS THE sha256 OF THE DUMP (.gsa) THAT YtkdnhndjjfjppaaProg.lean LOADS. Nothing in Lean hashes anything: it is a label: what it is worth is what the hold of that sum in a sandbox is worth. -/
noncomputable def Try.pinned : Pinned := { name := "ytkdnhndjjfjppaa", sum := "f3dd10d886ee8c31799ccd8cb73149848cd6db9e15810658badfbd969cf1214c", checked := Try.checked }
namespace Rows
def none {H : Type} : Left H := { results := [], args := [] }

/-- 'mementolaw24.IntakePlans': WHATEVER THE INPUT: true; the input reads as it did. -/
def intakePlansSpec : ChangeSpec := { name := "intakePlans", fn := fun _ => fun
  | [d1, d2, d3, d4, d5, d6, d7, d8, d9] => { results := [.lit (.bool true)], args := [d1, d2, d3, d4, d5, d6, d7, d8, d9] }
  | _ => none }
def intakePlansRow : OpenClaim := { program := "ytkdnhndjjfjppaa", sum := "f3dd10d886ee8c31799ccd8cb73149848cd6db9e15810658badfbd969cf1214c", func := "memento/mementolaw24.IntakePlans", spec := "intakePlans", unfollowed := true, recurses := true, apart := false }
def IntakePlansSaid : Prop := intakePlansRow.holds Try.pinned (OpenSpec.ofChange intakePlansSpec)

/-- ITS FALSE NEIGHBOUR: 'it returns false'. Refute it at one input. -/
def intakePlansWrong : ChangeSpec := { name := "intakePlans", fn := fun _ => fun
  | [d1, d2, d3, d4, d5, d6, d7, d8, d9] => { results := [.lit (.bool false)], args := [d1, d2, d3, d4, d5, d6, d7, d8, d9] }
  | _ => none }
def IntakePlansWrongFalsely : Prop := intakePlansRow.holds Try.pinned (OpenSpec.ofChange intakePlansWrong)

/-- 'mementolaw24.IntakeGoes': WHATEVER THE INPUT: true; the input reads as it did. -/
def intakeGoesSpec : ChangeSpec := { name := "intakeGoes", fn := fun _ => fun
  | [d1, d2, d3, d4, d5] => { results := [.lit (.bool true)], args := [d1, d2, d3, d4, d5] }
  | _ => none }
def intakeGoesRow : OpenClaim := { program := "ytkdnhndjjfjppaa", sum := "f3dd10d886ee8c31799ccd8cb73149848cd6db9e15810658badfbd969cf1214c", func := "memento/mementolaw24.IntakeGoes", spec := "intakeGoes", unfollowed := true, recurses := true, apart := false }
def IntakeGoesSaid : Prop := intakeGoesRow.holds Try.pinned (OpenSpec.ofChange intakeGoesSpec)

/-- ITS FALSE NEIGHBOUR: 'it returns false'. Refute it at one input. -/
def intakeGoesWrong : ChangeSpec := { name := "intakeGoes", fn := fun _ => fun
  | [d1, d2, d3, d4, d5] => { results := [.lit (.bool false)], args := [d1, d2, d3, d4, d5] }
  | _ => none }
def IntakeGoesWrongFalsely : Prop := intakeGoesRow.holds Try.pinned (OpenSpec.ofChange intakeGoesWrong)

/-- 'mementolaw24.IntakeCounts': WHATEVER THE INPUT: true; the input reads as it did. -/
def intakeCountsSpec : ChangeSpec := { name := "intakeCounts", fn := fun _ => fun
  | [d1, d2, d3, d4] => { results := [.lit (.bool true)], args := [d1, d2, d3, d4] }
  | _ => none }
def intakeCountsRow : OpenClaim := { program := "ytkdnhndjjfjppaa", sum := "f3dd10d886ee8c31799ccd8cb73149848cd6db9e15810658badfbd969cf1214c", func := "memento/mementolaw24.IntakeCounts", spec := "intakeCounts", unfollowed := true, recurses := true, apart := false }
def IntakeCountsSaid : Prop := intakeCountsRow.holds Try.pinned (OpenSpec.ofChange intakeCountsSpec)

/-- ITS FALSE NEIGHBOUR: 'it returns false'. Refute it at one input. -/
def intakeCountsWrong : ChangeSpec := { name := "intakeCounts", fn := fun _ => fun
  | [d1, d2, d3, d4] => { results := [.lit (.bool false)], args := [d1, d2, d3, d4] }
  | _ => none }
def IntakeCountsWrongFalsely : Prop := intakeCountsRow.holds Try.pinned (OpenSpec.ofChange intakeCountsWrong)

/-- 'mementolaw24.IntakePlaces': WHATEVER THE INPUT: true; the input reads as it did. -/
def intakePlacesSpec : ChangeSpec := { name := "intakePlaces", fn := fun _ => fun
  | [d1, d2, d3, d4, d5] => { results := [.lit (.bool true)], args := [d1, d2, d3, d4, d5] }
  | _ => none }
def intakePlacesRow : OpenClaim := { program := "ytkdnhndjjfjppaa", sum := "f3dd10d886ee8c31799ccd8cb73149848cd6db9e15810658badfbd969cf1214c", func := "memento/mementolaw24.IntakePlaces", spec := "intakePlaces", unfollowed := true, recurses := true, apart := false }
def IntakePlacesSaid : Prop := intakePlacesRow.holds Try.pinned (OpenSpec.ofChange intakePlacesSpec)

/-- ITS FALSE NEIGHBOUR: 'it returns false'. Refute it at one input. -/
def intakePlacesWrong : ChangeSpec := { name := "intakePlaces", fn := fun _ => fun
  | [d1, d2, d3, d4, d5] => { results := [.lit (.bool false)], args := [d1, d2, d3, d4, d5] }
  | _ => none }
def IntakePlacesWrongFalsely : Prop := intakePlacesRow.holds Try.pinned (OpenSpec.ofChange intakePlacesWrong)

/- THE SECOND FORM. 'bulk': how many values and letters a reading holds, each counted each time it is reached (what is shared counts as often as it is met; a slice's spare places count too). A statement '..UptoSaid' is the law's where the arguments, and the package variables that the reading takes, are together of bulk at most 1048576: NARROWER than '..Said'. Prove '..Said' where nothing that the law and all that it calls make is longer than what came in: it says more and counts as full. Else prove '..UptoSaid'. A law counts once. -/
mutual
def uptoBulk {H : Type} : DataW H → Nat
  | .lit (.string bytes) => bytes.length + 1
  | .lit _ => 1
  | .nil => 1
  | .ptr d => uptoBulk d + 1
  | .slice elems spare => uptoBulkAll elems + uptoBulkAll spare + 1
  | .agg parts => uptoBulkAll parts + 1
  | .iface _ d => uptoBulk d + 1
  | .map entries => uptoBulkEntries entries + 1
  | .held _ => 1
def uptoBulkAll {H : Type} : List (DataW H) → Nat
  | [] => 0
  | d :: r => uptoBulk d + uptoBulkAll r
def uptoBulkEntries {H : Type} : List (Lit × DataW H) → Nat
  | [] => 0
  | x :: r => uptoBulkEntry x + uptoBulkEntries r
def uptoBulkEntry {H : Type} : Lit × DataW H → Nat
  | (.string bytes, d) => bytes.length + uptoBulk d + 1
  | (_, d) => uptoBulk d + 1
 end
def uptoSmall : (H : Type) → List (DataW H) → Bool := fun _ ds => decide (uptoBulkAll ds ≤ 1048576)
def OpenSpec.upto (s : _root_.Go.ChangeSpec) : _root_.Go.OpenSpec := { _root_.Go.OpenSpec.ofChange s with cond := some uptoSmall }

/-- 'mementolaw24.IntakePlans', WHERE WHAT IT READS IS OF BULK AT MOST 1048576: true; the input reads as it did. -/
def intakePlansUptoRow : OpenClaim := { program := "ytkdnhndjjfjppaa", sum := "f3dd10d886ee8c31799ccd8cb73149848cd6db9e15810658badfbd969cf1214c", func := "memento/mementolaw24.IntakePlans", spec := "intakePlans", unfollowed := true, recurses := true, apart := false, narrowed := true }
def IntakePlansUptoSaid : Prop := intakePlansUptoRow.holds Try.pinned (OpenSpec.upto intakePlansSpec)

/-- 'mementolaw24.IntakeGoes', WHERE WHAT IT READS IS OF BULK AT MOST 1048576: true; the input reads as it did. -/
def intakeGoesUptoRow : OpenClaim := { program := "ytkdnhndjjfjppaa", sum := "f3dd10d886ee8c31799ccd8cb73149848cd6db9e15810658badfbd969cf1214c", func := "memento/mementolaw24.IntakeGoes", spec := "intakeGoes", unfollowed := true, recurses := true, apart := false, narrowed := true }
def IntakeGoesUptoSaid : Prop := intakeGoesUptoRow.holds Try.pinned (OpenSpec.upto intakeGoesSpec)

/-- 'mementolaw24.IntakeCounts', WHERE WHAT IT READS IS OF BULK AT MOST 1048576: true; the input reads as it did. -/
def intakeCountsUptoRow : OpenClaim := { program := "ytkdnhndjjfjppaa", sum := "f3dd10d886ee8c31799ccd8cb73149848cd6db9e15810658badfbd969cf1214c", func := "memento/mementolaw24.IntakeCounts", spec := "intakeCounts", unfollowed := true, recurses := true, apart := false, narrowed := true }
def IntakeCountsUptoSaid : Prop := intakeCountsUptoRow.holds Try.pinned (OpenSpec.upto intakeCountsSpec)

/-- 'mementolaw24.IntakePlaces', WHERE WHAT IT READS IS OF BULK AT MOST 1048576: true; the input reads as it did. -/
def intakePlacesUptoRow : OpenClaim := { program := "ytkdnhndjjfjppaa", sum := "f3dd10d886ee8c31799ccd8cb73149848cd6db9e15810658badfbd969cf1214c", func := "memento/mementolaw24.IntakePlaces", spec := "intakePlaces", unfollowed := true, recurses := true, apart := false, narrowed := true }
def IntakePlacesUptoSaid : Prop := intakePlacesUptoRow.holds Try.pinned (OpenSpec.upto intakePlacesSpec)

end Rows
end Go.Proofs.Ytkdnhndjjfjppaa
