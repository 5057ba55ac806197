/-
  No cell of these rows narrows 'for every input' (looked for: loops, veiled, ifaces, maps, wideKeys, modest, calm, conditions, laid).
  DERIVED. THE GIVEN ROWS OF THIS SEAT. 5 by the template 'for every input the law returns true; each argument reads behind the call as it read before'; 0 by the template 'total and deterministic' (their statements: YtkehgingagggaaaGreatTotals.lean).
  GIVEN WITH THE SEED: the statements are not yours to turn. If you find one false, say at which input.
  Laid BY PROGRAM, IN A SANDBOX (cutbox-rows.mjs): the forced cells as the released guide's own fill.sh prints them over the translation 84268c97b3b0c408… (all of the seat's roots in one cut). By AI agents, Wed Nov 11 2026. No macro, syntax, notation, axiom, sorry.
-/
import Derived.Test.YtkehgingagggaaaGreatChecked
import GoSem.Claim
import GoSem.ClaimJoined
import GoSem.ClaimMapViews
import Derived.JoinedTies
import Derived.KernelRfl
namespace Go.Proofs.YtkehgingagggaaaGreat
/- THE CELL 'sum', in the pinned program and in every row, IS THE sha256 OF THE DUMP (.gsa) THAT YtkehgingagggaaaGreatProg.lean LOADS. Nothing in Lean hashes anything: it is a label: what it is worth is what the hold of that sum in a sandbox is worth. -/
noncomputable def Tryz.pinned : Pinned := { name := "ytkehgingagggaaagreat", sum := "84268c97b3b0c4080dc1146a8416abd2c535b49864673c35b793dd8986a80295", checked := Tryz.checked }
namespace Rows
def none {H : Type} : Left H := { results := [], args := [] }

/-- 'mementolaw17.MsmPlays': WHATEVER THE INPUT: true; the input reads as it did. -/
def msmPlaysSpec : ChangeSpec := { name := "msmPlays", fn := fun _ => fun
  | [d1, d2, d3, d4, d5] => { results := [.lit (.bool true)], args := [d1, d2, d3, d4, d5] }
  | _ => none }
def msmPlaysRow : OpenClaim := { program := "ytkehgingagggaaagreat", sum := "84268c97b3b0c4080dc1146a8416abd2c535b49864673c35b793dd8986a80295", func := "memento/mementolaw17.MsmPlays", spec := "msmPlays", unfollowed := true, recurses := true, apart := false }
def MsmPlaysSaid : Prop := msmPlaysRow.holds Tryz.pinned (OpenSpec.ofChange msmPlaysSpec)

/-- ITS FALSE NEIGHBOUR: 'it returns false'. Refute it at one input. -/
def msmPlaysWrong : ChangeSpec := { name := "msmPlays", fn := fun _ => fun
  | [d1, d2, d3, d4, d5] => { results := [.lit (.bool false)], args := [d1, d2, d3, d4, d5] }
  | _ => none }
def MsmPlaysWrongFalsely : Prop := msmPlaysRow.holds Tryz.pinned (OpenSpec.ofChange msmPlaysWrong)

/-- 'mementolaw17.MsmCmds': WHATEVER THE INPUT: true; the input reads as it did. -/
def msmCmdsSpec : ChangeSpec := { name := "msmCmds", fn := fun _ => fun
  | [d1, d2, d3, d4, d5, d6, d7] => { results := [.lit (.bool true)], args := [d1, d2, d3, d4, d5, d6, d7] }
  | _ => none }
def msmCmdsRow : OpenClaim := { program := "ytkehgingagggaaagreat", sum := "84268c97b3b0c4080dc1146a8416abd2c535b49864673c35b793dd8986a80295", func := "memento/mementolaw17.MsmCmds", spec := "msmCmds", unfollowed := true, recurses := true, apart := false }
def MsmCmdsSaid : Prop := msmCmdsRow.holds Tryz.pinned (OpenSpec.ofChange msmCmdsSpec)

/-- ITS FALSE NEIGHBOUR: 'it returns false'. Refute it at one input. -/
def msmCmdsWrong : ChangeSpec := { name := "msmCmds", fn := fun _ => fun
  | [d1, d2, d3, d4, d5, d6, d7] => { results := [.lit (.bool false)], args := [d1, d2, d3, d4, d5, d6, d7] }
  | _ => none }
def MsmCmdsWrongFalsely : Prop := msmCmdsRow.holds Tryz.pinned (OpenSpec.ofChange msmCmdsWrong)

/-- 'mementolaw26.ModelReplays': WHATEVER THE INPUT: true; the input reads as it did. -/
def modelReplaysSpec : ChangeSpec := { name := "modelReplays", fn := fun _ => fun
  | [d1, d2, d3, d4, d5] => { results := [.lit (.bool true)], args := [d1, d2, d3, d4, d5] }
  | _ => none }
def modelReplaysRow : OpenClaim := { program := "ytkehgingagggaaagreat", sum := "84268c97b3b0c4080dc1146a8416abd2c535b49864673c35b793dd8986a80295", func := "memento/mementolaw26.ModelReplays", spec := "modelReplays", unfollowed := true, recurses := true, apart := false }
def ModelReplaysSaid : Prop := modelReplaysRow.holds Tryz.pinned (OpenSpec.ofChange modelReplaysSpec)

/-- ITS FALSE NEIGHBOUR: 'it returns false'. Refute it at one input. -/
def modelReplaysWrong : ChangeSpec := { name := "modelReplays", fn := fun _ => fun
  | [d1, d2, d3, d4, d5] => { results := [.lit (.bool false)], args := [d1, d2, d3, d4, d5] }
  | _ => none }
def ModelReplaysWrongFalsely : Prop := modelReplaysRow.holds Tryz.pinned (OpenSpec.ofChange modelReplaysWrong)

/-- 'mementolaw26.ModelLies': WHATEVER THE INPUT: true; the input reads as it did. -/
def modelLiesSpec : ChangeSpec := { name := "modelLies", fn := fun _ => fun
  | [d1, d2, d3] => { results := [.lit (.bool true)], args := [d1, d2, d3] }
  | _ => none }
def modelLiesRow : OpenClaim := { program := "ytkehgingagggaaagreat", sum := "84268c97b3b0c4080dc1146a8416abd2c535b49864673c35b793dd8986a80295", func := "memento/mementolaw26.ModelLies", spec := "modelLies", unfollowed := true, recurses := true, apart := false }
def ModelLiesSaid : Prop := modelLiesRow.holds Tryz.pinned (OpenSpec.ofChange modelLiesSpec)

/-- ITS FALSE NEIGHBOUR: 'it returns false'. Refute it at one input. -/
def modelLiesWrong : ChangeSpec := { name := "modelLies", fn := fun _ => fun
  | [d1, d2, d3] => { results := [.lit (.bool false)], args := [d1, d2, d3] }
  | _ => none }
def ModelLiesWrongFalsely : Prop := modelLiesRow.holds Tryz.pinned (OpenSpec.ofChange modelLiesWrong)

/-- 'mementolaw26.ModelPrefixes': WHATEVER THE INPUT: true; the input reads as it did. -/
def modelPrefixesSpec : ChangeSpec := { name := "modelPrefixes", fn := fun _ => fun
  | [d1, d2, d3] => { results := [.lit (.bool true)], args := [d1, d2, d3] }
  | _ => none }
def modelPrefixesRow : OpenClaim := { program := "ytkehgingagggaaagreat", sum := "84268c97b3b0c4080dc1146a8416abd2c535b49864673c35b793dd8986a80295", func := "memento/mementolaw26.ModelPrefixes", spec := "modelPrefixes", unfollowed := true, recurses := true, apart := false }
def ModelPrefixesSaid : Prop := modelPrefixesRow.holds Tryz.pinned (OpenSpec.ofChange modelPrefixesSpec)

/-- ITS FALSE NEIGHBOUR: 'it returns false'. Refute it at one input. -/
def modelPrefixesWrong : ChangeSpec := { name := "modelPrefixes", fn := fun _ => fun
  | [d1, d2, d3] => { results := [.lit (.bool false)], args := [d1, d2, d3] }
  | _ => none }
def ModelPrefixesWrongFalsely : Prop := modelPrefixesRow.holds Tryz.pinned (OpenSpec.ofChange modelPrefixesWrong)

/- THE SECOND FORM. 'bulk': how many values and letters a reading holds, each counted each time it is reached (what is shared counts as often as it is met; a slice's spare places count too). A statement '..UptoSaid' is the law's where the arguments, and the package variables that the reading takes, are together of bulk at most 1048576: NARROWER than '..Said'. Prove '..Said' where nothing that the law and all that it calls make is longer than what came in: it says more and counts as full. Else prove '..UptoSaid'. A law counts once. -/
mutual
def uptoBulk {H : Type} : DataW H → Nat
  | .lit (.string bytes) => bytes.length + 1
  | .lit _ => 1
  | .nil => 1
  | .ptr d => uptoBulk d + 1
  | .slice elems spare => uptoBulkAll elems + uptoBulkAll spare + 1
  | .agg parts => uptoBulkAll parts + 1
  | .iface _ d => uptoBulk d + 1
  | .map entries => uptoBulkEntries entries + 1
  | .held _ => 1
def uptoBulkAll {H : Type} : List (DataW H) → Nat
  | [] => 0
  | d :: r => uptoBulk d + uptoBulkAll r
def uptoBulkEntries {H : Type} : List (Lit × DataW H) → Nat
  | [] => 0
  | x :: r => uptoBulkEntry x + uptoBulkEntries r
def uptoBulkEntry {H : Type} : Lit × DataW H → Nat
  | (.string bytes, d) => bytes.length + uptoBulk d + 1
  | (_, d) => uptoBulk d + 1
 end
def uptoSmall : (H : Type) → List (DataW H) → Bool := fun _ ds => decide (uptoBulkAll ds ≤ 1048576)
def OpenSpec.upto (s : _root_.Go.ChangeSpec) : _root_.Go.OpenSpec := { _root_.Go.OpenSpec.ofChange s with cond := some uptoSmall }

/-- 'mementolaw17.MsmPlays', WHERE WHAT IT READS IS OF BULK AT MOST 1048576: true; the input reads as it did. -/
def msmPlaysUptoRow : OpenClaim := { program := "ytkehgingagggaaagreat", sum := "84268c97b3b0c4080dc1146a8416abd2c535b49864673c35b793dd8986a80295", func := "memento/mementolaw17.MsmPlays", spec := "msmPlays", unfollowed := true, recurses := true, apart := false, narrowed := true }
def MsmPlaysUptoSaid : Prop := msmPlaysUptoRow.holds Tryz.pinned (OpenSpec.upto msmPlaysSpec)

/-- 'mementolaw17.MsmCmds', WHERE WHAT IT READS IS OF BULK AT MOST 1048576: true; the input reads as it did. -/
def msmCmdsUptoRow : OpenClaim := { program := "ytkehgingagggaaagreat", sum := "84268c97b3b0c4080dc1146a8416abd2c535b49864673c35b793dd8986a80295", func := "memento/mementolaw17.MsmCmds", spec := "msmCmds", unfollowed := true, recurses := true, apart := false, narrowed := true }
def MsmCmdsUptoSaid : Prop := msmCmdsUptoRow.holds Tryz.pinned (OpenSpec.upto msmCmdsSpec)

/-- 'mementolaw26.ModelReplays', WHERE WHAT IT READS IS OF BULK AT MOST 1048576: true; the input reads as it did. -/
def modelReplaysUptoRow : OpenClaim := { program := "ytkehgingagggaaagreat", sum := "84268c97b3b0c4080dc1146a8416abd2c535b49864673c35b793dd8986a80295", func := "memento/mementolaw26.ModelReplays", spec := "modelReplays", unfollowed := true, recurses := true, apart := false, narrowed := true }
def ModelReplaysUptoSaid : Prop := modelReplaysUptoRow.holds Tryz.pinned (OpenSpec.upto modelReplaysSpec)

/-- 'mementolaw26.ModelLies', WHERE WHAT IT READS IS OF BULK AT MOST 1048576: true; the input reads as it did. -/
def modelLiesUptoRow : OpenClaim := { program := "ytkehgingagggaaagreat", sum := "84268c97b3b0c4080dc1146a8416abd2c535b49864673c35b793dd8986a80295", func := "memento/mementolaw26.ModelLies", spec := "modelLies", unfollowed := true, recurses := true, apart := false, narrowed := true }
def ModelLiesUptoSaid : Prop := modelLiesUptoRow.holds Tryz.pinned (OpenSpec.upto modelLiesSpec)

/-- 'mementolaw26.ModelPrefixes', WHERE WHAT IT READS IS OF BULK AT MOST 1048576: true; the input reads as it did. -/
def modelPrefixesUptoRow : OpenClaim := { program := "ytkehgingagggaaagreat", sum := "84268c97b3b0c4080dc1146a8416abd2c535b49864673c35b793dd8986a80295", func := "memento/mementolaw26.ModelPrefixes", spec := "modelPrefixes", unfollowed := true, recurses := true, apart := false, narrowed := true }
def ModelPrefixesUptoSaid : Prop := modelPrefixesUptoRow.holds Tryz.pinned (OpenSpec.upto modelPrefixesSpec)

end Rows
end Go.Proofs.YtkehgingagggaaaGreat
