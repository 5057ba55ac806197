/-
  NARROWER THAN 'FOR EVERY INPUT', by the rows' own cells (each row's printed sentence says how): StreamReads: laid · StreamBurst: laid · StreamCut: laid.
  DERIVED. THE GIVEN ROWS OF THIS SEAT. 3 by the template 'for every input the law returns true; each argument reads behind the call as it read before'; 0 by the template 'total and deterministic' (their statements: YtodiklpfdfjikaaDoorTotals.lean).
  GIVEN WITH THE SEED: the statements are not yours to turn. If you find one false, say at which input.
  Laid BY PROGRAM, IN A SANDBOX (cutbox-rows.mjs): the forced cells as the released guide's own fill.sh prints them over the translation 4f0e97f1d865f958… (all of the seat's roots in one cut). By AI agents, Wed Nov 11 2026. No macro, syntax, notation, axiom, sorry.
-/
import Derived.Test.YtodiklpfdfjikaaDoorChecked
import GoSem.Claim
import GoSem.ClaimJoined
import GoSem.ClaimMapViews
import Derived.JoinedTies
import Derived.KernelRfl
namespace Go.Proofs.YtodiklpfdfjikaaDoor
/- THE CELL 'sum', in the pinned program and in every row, IS THE sha256 OF THE DUMP (.gsa) THAT YtodiklpfdfjikaaDoorProg.lean LOADS. Nothing in Lean hashes anything: it is a label: what it is worth is what the hold of that sum in a sandbox is worth. -/
noncomputable def Tryd.pinned : Pinned := { name := "ytodiklpfdfjikaadoor", sum := "4f0e97f1d865f958513c714aa306dfd37b52665776d1665595e5b90d5000d64e", checked := Tryd.checked }
namespace Rows
def none {H : Type} : Left H := { results := [], args := [] }

/- WHAT THE LISTED PACKAGE-LEVEL VARIABLES READ AS WHEN THE CALL BEGINS. Each datum BY PROGRAM (the guide's laid-datum.mjs) off the statement by which the dump's own 'gosem.cut.vars' lays the variable. In a bare row this is a premise. The card (YtodiklpfdfjikaaDoorCards.lean) ties it to the program's text. -/
def laid_memento_crc_steps {H : Type} : DataW H := .agg [.lit (.int .u32 0), .lit (.int .u32 274646895), .lit (.int .u32 549293790), .lit (.int .u32 820201905), .lit (.int .u32 1098587580), .lit (.int .u32 1361435347), .lit (.int .u32 1640403810), .lit (.int .u32 1905808397), .lit (.int .u32 2197175160), .lit (.int .u32 2460548119), .lit (.int .u32 2722870694), .lit (.int .u32 2987750089), .lit (.int .u32 3280807620), .lit (.int .u32 3553878443), .lit (.int .u32 3811616794), .lit (.int .u32 4084100981)]

/-- 'mementolaw21.StreamReads': WHATEVER THE INPUT: true; the input reads as it did. -/
def streamReadsSpec : ChangeSpec := { name := "streamReads", fn := fun _ => fun
  | [d1, d2, d3, d4, d5, d6] => { results := [.lit (.bool true)], args := [d1, d2, d3, d4, d5, d6] }
  | _ => none }
def streamReadsRow : OpenClaim := { program := "ytodiklpfdfjikaadoor", sum := "4f0e97f1d865f958513c714aa306dfd37b52665776d1665595e5b90d5000d64e", func := "memento/mementolaw21.StreamReads", spec := "streamReads", unfollowed := true, recurses := true, named := ["memento/crc.steps"], apart := false, laid := [("memento/crc.steps", laid_memento_crc_steps)] }
def StreamReadsSaid : Prop := streamReadsRow.holds Tryd.pinned (OpenSpec.ofChange streamReadsSpec)

/-- ITS FALSE NEIGHBOUR: 'it returns false'. Refute it at one input. -/
def streamReadsWrong : ChangeSpec := { name := "streamReads", fn := fun _ => fun
  | [d1, d2, d3, d4, d5, d6] => { results := [.lit (.bool false)], args := [d1, d2, d3, d4, d5, d6] }
  | _ => none }
def StreamReadsWrongFalsely : Prop := streamReadsRow.holds Tryd.pinned (OpenSpec.ofChange streamReadsWrong)

/-- 'mementolaw21.StreamBurst': WHATEVER THE INPUT: true; the input reads as it did. -/
def streamBurstSpec : ChangeSpec := { name := "streamBurst", fn := fun _ => fun
  | [d1, d2, d3, d4, d5] => { results := [.lit (.bool true)], args := [d1, d2, d3, d4, d5] }
  | _ => none }
def streamBurstRow : OpenClaim := { program := "ytodiklpfdfjikaadoor", sum := "4f0e97f1d865f958513c714aa306dfd37b52665776d1665595e5b90d5000d64e", func := "memento/mementolaw21.StreamBurst", spec := "streamBurst", unfollowed := true, recurses := true, named := ["memento/crc.steps"], apart := false, laid := [("memento/crc.steps", laid_memento_crc_steps)] }
def StreamBurstSaid : Prop := streamBurstRow.holds Tryd.pinned (OpenSpec.ofChange streamBurstSpec)

/-- ITS FALSE NEIGHBOUR: 'it returns false'. Refute it at one input. -/
def streamBurstWrong : ChangeSpec := { name := "streamBurst", fn := fun _ => fun
  | [d1, d2, d3, d4, d5] => { results := [.lit (.bool false)], args := [d1, d2, d3, d4, d5] }
  | _ => none }
def StreamBurstWrongFalsely : Prop := streamBurstRow.holds Tryd.pinned (OpenSpec.ofChange streamBurstWrong)

/-- 'mementolaw21.StreamCut': WHATEVER THE INPUT: true; the input reads as it did. -/
def streamCutSpec : ChangeSpec := { name := "streamCut", fn := fun _ => fun
  | [d1, d2, d3, d4, d5] => { results := [.lit (.bool true)], args := [d1, d2, d3, d4, d5] }
  | _ => none }
def streamCutRow : OpenClaim := { program := "ytodiklpfdfjikaadoor", sum := "4f0e97f1d865f958513c714aa306dfd37b52665776d1665595e5b90d5000d64e", func := "memento/mementolaw21.StreamCut", spec := "streamCut", unfollowed := true, recurses := true, named := ["memento/crc.steps"], apart := false, laid := [("memento/crc.steps", laid_memento_crc_steps)] }
def StreamCutSaid : Prop := streamCutRow.holds Tryd.pinned (OpenSpec.ofChange streamCutSpec)

/-- ITS FALSE NEIGHBOUR: 'it returns false'. Refute it at one input. -/
def streamCutWrong : ChangeSpec := { name := "streamCut", fn := fun _ => fun
  | [d1, d2, d3, d4, d5] => { results := [.lit (.bool false)], args := [d1, d2, d3, d4, d5] }
  | _ => none }
def StreamCutWrongFalsely : Prop := streamCutRow.holds Tryd.pinned (OpenSpec.ofChange streamCutWrong)

/- THE SECOND FORM. 'bulk': how many values and letters a reading holds, each counted each time it is reached (what is shared counts as often as it is met; a slice's spare places count too). A statement '..UptoSaid' is the law's where the arguments, and the package variables that the reading takes, are together of bulk at most 1048576: NARROWER than '..Said'. Prove '..Said' where nothing that the law and all that it calls make is longer than what came in: it says more and counts as full. Else prove '..UptoSaid'. A law counts once. -/
mutual
def uptoBulk {H : Type} : DataW H → Nat
  | .lit (.string bytes) => bytes.length + 1
  | .lit _ => 1
  | .nil => 1
  | .ptr d => uptoBulk d + 1
  | .slice elems spare => uptoBulkAll elems + uptoBulkAll spare + 1
  | .agg parts => uptoBulkAll parts + 1
  | .iface _ d => uptoBulk d + 1
  | .map entries => uptoBulkEntries entries + 1
  | .held _ => 1
def uptoBulkAll {H : Type} : List (DataW H) → Nat
  | [] => 0
  | d :: r => uptoBulk d + uptoBulkAll r
def uptoBulkEntries {H : Type} : List (Lit × DataW H) → Nat
  | [] => 0
  | x :: r => uptoBulkEntry x + uptoBulkEntries r
def uptoBulkEntry {H : Type} : Lit × DataW H → Nat
  | (.string bytes, d) => bytes.length + uptoBulk d + 1
  | (_, d) => uptoBulk d + 1
 end
def uptoSmall : (H : Type) → List (DataW H) → Bool := fun _ ds => decide (uptoBulkAll ds ≤ 1048576)
def OpenSpec.upto (s : _root_.Go.ChangeSpec) : _root_.Go.OpenSpec := { _root_.Go.OpenSpec.ofChange s with cond := some uptoSmall }

/-- 'mementolaw21.StreamReads', WHERE WHAT IT READS IS OF BULK AT MOST 1048576: true; the input reads as it did. -/
def streamReadsUptoRow : OpenClaim := { program := "ytodiklpfdfjikaadoor", sum := "4f0e97f1d865f958513c714aa306dfd37b52665776d1665595e5b90d5000d64e", func := "memento/mementolaw21.StreamReads", spec := "streamReads", unfollowed := true, recurses := true, named := ["memento/crc.steps"], apart := false, laid := [("memento/crc.steps", laid_memento_crc_steps)], narrowed := true }
def StreamReadsUptoSaid : Prop := streamReadsUptoRow.holds Tryd.pinned (OpenSpec.upto streamReadsSpec)

/-- 'mementolaw21.StreamBurst', WHERE WHAT IT READS IS OF BULK AT MOST 1048576: true; the input reads as it did. -/
def streamBurstUptoRow : OpenClaim := { program := "ytodiklpfdfjikaadoor", sum := "4f0e97f1d865f958513c714aa306dfd37b52665776d1665595e5b90d5000d64e", func := "memento/mementolaw21.StreamBurst", spec := "streamBurst", unfollowed := true, recurses := true, named := ["memento/crc.steps"], apart := false, laid := [("memento/crc.steps", laid_memento_crc_steps)], narrowed := true }
def StreamBurstUptoSaid : Prop := streamBurstUptoRow.holds Tryd.pinned (OpenSpec.upto streamBurstSpec)

/-- 'mementolaw21.StreamCut', WHERE WHAT IT READS IS OF BULK AT MOST 1048576: true; the input reads as it did. -/
def streamCutUptoRow : OpenClaim := { program := "ytodiklpfdfjikaadoor", sum := "4f0e97f1d865f958513c714aa306dfd37b52665776d1665595e5b90d5000d64e", func := "memento/mementolaw21.StreamCut", spec := "streamCut", unfollowed := true, recurses := true, named := ["memento/crc.steps"], apart := false, laid := [("memento/crc.steps", laid_memento_crc_steps)], narrowed := true }
def StreamCutUptoSaid : Prop := streamCutUptoRow.holds Tryd.pinned (OpenSpec.upto streamCutSpec)

end Rows
end Go.Proofs.YtodiklpfdfjikaaDoor
