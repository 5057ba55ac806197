/-
  DERIVED. GIVEN WITH THE SEED: THE CARDS: each row of YtodiklpfdfjikaaDoorRows.lean that lists a variable, with what it lists TIED to the program's text (the seventh form; the later family's looks); each row that meets fmt, with fmt's text TOLD by the authors' own Lean function (tested against real Go, not proved from fmt's source: count such statements apart). THE CARD IS WHAT COUNTS. Prove the row's statement (the work); the ties are given (YtodiklpfdfjikaaDoorTie.lean); close each card by the builder's one call (the guide's Derived/Test/ToyasCard.lean, 'card_holds'). Laid BY PROGRAM, IN A SANDBOX (cutbox-door.mjs). By AI agents, Wed Nov 11 2026. No macro, syntax, notation, axiom, sorry.
-/
import Derived.Test.YtodiklpfdfjikaaDoorRows
import GoSem.ClaimSeven
namespace Go.Proofs.YtodiklpfdfjikaaDoor
namespace Rows

/-- THE TIED CARD OF 'mementolaw21.StreamReads'. -/
def streamReadsCard : Claim7 := { stood := { row := streamReadsRow, standIns := [], harness := (true, "2177eb85314438d507b57f0b1e58f9ecd7f792f214bbf2f9adfa554e5402271f"), looks := false }, kinds := [], alts := [], laidByText := true, laidKinds := [.data], laidTests := true, laidLooks := .later }
def StreamReadsCardSaid : Prop := Claim7.holds Tryd.pinned (.plain (OpenSpec.ofChange streamReadsSpec)) streamReadsCard

/-- THE TIED CARD OF 'mementolaw21.StreamBurst'. -/
def streamBurstCard : Claim7 := { stood := { row := streamBurstRow, standIns := [], harness := (true, "2177eb85314438d507b57f0b1e58f9ecd7f792f214bbf2f9adfa554e5402271f"), looks := false }, kinds := [], alts := [], laidByText := true, laidKinds := [.data], laidTests := true, laidLooks := .later }
def StreamBurstCardSaid : Prop := Claim7.holds Tryd.pinned (.plain (OpenSpec.ofChange streamBurstSpec)) streamBurstCard

/-- THE TIED CARD OF 'mementolaw21.StreamCut'. -/
def streamCutCard : Claim7 := { stood := { row := streamCutRow, standIns := [], harness := (true, "2177eb85314438d507b57f0b1e58f9ecd7f792f214bbf2f9adfa554e5402271f"), looks := false }, kinds := [], alts := [], laidByText := true, laidKinds := [.data], laidTests := true, laidLooks := .later }
def StreamCutCardSaid : Prop := Claim7.holds Tryd.pinned (.plain (OpenSpec.ofChange streamCutSpec)) streamCutCard

/-- THE SECOND FORM's CARD OF 'mementolaw21.StreamReads'. -/
def streamReadsUptoCard : Claim7 := { stood := { row := streamReadsUptoRow, standIns := [], harness := (true, "2177eb85314438d507b57f0b1e58f9ecd7f792f214bbf2f9adfa554e5402271f"), looks := false }, kinds := [], alts := [], laidByText := true, laidKinds := [.data], laidTests := true, laidLooks := .later }
def StreamReadsUptoCardSaid : Prop := Claim7.holds Tryd.pinned (.plain (OpenSpec.upto streamReadsSpec)) streamReadsUptoCard

/-- THE SECOND FORM's CARD OF 'mementolaw21.StreamBurst'. -/
def streamBurstUptoCard : Claim7 := { stood := { row := streamBurstUptoRow, standIns := [], harness := (true, "2177eb85314438d507b57f0b1e58f9ecd7f792f214bbf2f9adfa554e5402271f"), looks := false }, kinds := [], alts := [], laidByText := true, laidKinds := [.data], laidTests := true, laidLooks := .later }
def StreamBurstUptoCardSaid : Prop := Claim7.holds Tryd.pinned (.plain (OpenSpec.upto streamBurstSpec)) streamBurstUptoCard

/-- THE SECOND FORM's CARD OF 'mementolaw21.StreamCut'. -/
def streamCutUptoCard : Claim7 := { stood := { row := streamCutUptoRow, standIns := [], harness := (true, "2177eb85314438d507b57f0b1e58f9ecd7f792f214bbf2f9adfa554e5402271f"), looks := false }, kinds := [], alts := [], laidByText := true, laidKinds := [.data], laidTests := true, laidLooks := .later }
def StreamCutUptoCardSaid : Prop := Claim7.holds Tryd.pinned (.plain (OpenSpec.upto streamCutSpec)) streamCutUptoCard
end Rows
end Go.Proofs.YtodiklpfdfjikaaDoor
