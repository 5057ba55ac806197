/-
  DERIVED. GIVEN WITH THE SEED: THE CARDS: each row of YtcccomafnmdlfaaDoorRows.lean that lists a variable, with what it lists TIED to the program's text (the seventh form; the later family's looks); each row that meets fmt, with fmt's text TOLD by the authors' own Lean function (tested against real Go, not proved from fmt's source: count such statements apart). THE CARD IS WHAT COUNTS. Prove the row's statement (the work); the ties are given (YtcccomafnmdlfaaDoorTie.lean); close each card by the builder's one call (the guide's Derived/Test/ToyasCard.lean, 'card_holds'). Laid BY PROGRAM, IN A SANDBOX (cutbox-door.mjs). By AI agents, Wed Nov 11 2026. No macro, syntax, notation, axiom, sorry.
-/
import Derived.Test.YtcccomafnmdlfaaDoorRows
import GoSem.ClaimSeven
namespace Go.Proofs.YtcccomafnmdlfaaDoor
namespace Rows

/-- THE TIED CARD OF 'mementolaw22.ChainDecodes'. -/
def chainDecodesCard : Claim7 := { stood := { row := chainDecodesRow, standIns := [], harness := (true, "abfbb870c78b42a919de145500b1d0f23a8a2225e9fdb30e9e8ea747a02def9c"), looks := false }, kinds := [], alts := [], laidByText := true, laidKinds := [.data], laidTests := true, laidLooks := .later }
def ChainDecodesCardSaid : Prop := Claim7.holds Tryd.pinned (.plain (OpenSpec.ofChange chainDecodesSpec)) chainDecodesCard

/-- THE SECOND FORM's CARD OF 'mementolaw22.ChainDecodes'. -/
def chainDecodesUptoCard : Claim7 := { stood := { row := chainDecodesUptoRow, standIns := [], harness := (true, "abfbb870c78b42a919de145500b1d0f23a8a2225e9fdb30e9e8ea747a02def9c"), looks := false }, kinds := [], alts := [], laidByText := true, laidKinds := [.data], laidTests := true, laidLooks := .later }
def ChainDecodesUptoCardSaid : Prop := Claim7.holds Tryd.pinned (.plain (OpenSpec.upto chainDecodesSpec)) chainDecodesUptoCard
end Rows
end Go.Proofs.YtcccomafnmdlfaaDoor
