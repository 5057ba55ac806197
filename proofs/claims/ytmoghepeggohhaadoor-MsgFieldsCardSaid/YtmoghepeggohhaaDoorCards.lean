/-
  DERIVED. GIVEN WITH THE SEED: THE CARDS: each row of YtmoghepeggohhaaDoorRows.lean that lists a variable, with what it lists TIED to the program's text (the seventh form; the later family's looks); each row that meets fmt, with fmt's text TOLD by the authors' own Lean function (tested against real Go, not proved from fmt's source: count such statements apart). THE CARD IS WHAT COUNTS. Prove the row's statement (the work); the ties are given (YtmoghepeggohhaaDoorTie.lean); close each card by the builder's one call (the guide's Derived/Test/ToyasCard.lean, 'card_holds'). Laid BY PROGRAM, IN A SANDBOX (cutbox-door.mjs). By AI agents, Wed Nov 11 2026. No macro, syntax, notation, axiom, sorry.
-/
import Derived.Test.YtmoghepeggohhaaDoorRows
import GoSem.ClaimSeven
namespace Go.Proofs.YtmoghepeggohhaaDoor
namespace Rows

/-- THE TIED CARD OF 'mementolaw10.MsgFields'. -/
def msgFieldsCard : Claim7 := { stood := { row := msgFieldsRow, standIns := [], harness := (true, "c79e20430a4989d04206a5d8728abada8e141586bf081ee49c8e14a582cdd496"), looks := false }, kinds := [], alts := [], laidByText := true, laidKinds := [.data], laidTests := true, laidLooks := .later }
def MsgFieldsCardSaid : Prop := Claim7.holds Tryd.pinned (.plain (OpenSpec.ofChange msgFieldsSpec)) msgFieldsCard

/-- THE SECOND FORM's CARD OF 'mementolaw10.MsgFields'. -/
def msgFieldsUptoCard : Claim7 := { stood := { row := msgFieldsUptoRow, standIns := [], harness := (true, "c79e20430a4989d04206a5d8728abada8e141586bf081ee49c8e14a582cdd496"), looks := false }, kinds := [], alts := [], laidByText := true, laidKinds := [.data], laidTests := true, laidLooks := .later }
def MsgFieldsUptoCardSaid : Prop := Claim7.holds Tryd.pinned (.plain (OpenSpec.upto msgFieldsSpec)) msgFieldsUptoCard
end Rows
end Go.Proofs.YtmoghepeggohhaaDoor
