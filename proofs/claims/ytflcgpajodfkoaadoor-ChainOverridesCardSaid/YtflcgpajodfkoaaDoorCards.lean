/-
  DERIVED. GIVEN WITH THE SEED: THE CARDS: each row of YtflcgpajodfkoaaDoorRows.lean that lists a variable, with what it lists TIED to the program's text (the seventh form; the later family's looks); each row that meets fmt, with fmt's text TOLD by the authors' own Lean function (tested against real Go, not proved from fmt's source: count such statements apart). THE CARD IS WHAT COUNTS. Prove the row's statement (the work); the ties are given (YtflcgpajodfkoaaDoorTie.lean); close each card by the builder's one call (the guide's Derived/Test/ToyasCard.lean, 'card_holds'). Laid BY PROGRAM, IN A SANDBOX (cutbox-door.mjs). By AI agents, Wed Nov 11 2026. No macro, syntax, notation, axiom, sorry.
-/
import Derived.Test.YtflcgpajodfkoaaDoorRows
import GoSem.ClaimSeven
namespace Go.Proofs.YtflcgpajodfkoaaDoor
namespace Rows

/-- THE TIED CARD OF 'mementolaw22.ChainMerges'. -/
def chainMergesCard : Claim7 := { stood := { row := chainMergesRow, standIns := [], harness := (true, "242a4f425bc2f7b75f5f22711f398380c781c6a0f118025f549cd4b6ce6f8e17"), looks := false }, kinds := [], alts := [], laidByText := true, laidKinds := [.data], laidTests := true, laidLooks := .later }
def ChainMergesCardSaid : Prop := Claim7.holds Tryd.pinned (.plain (OpenSpec.ofChange chainMergesSpec)) chainMergesCard

/-- THE TIED CARD OF 'mementolaw22.ChainDecodes'. -/
def chainDecodesCard : Claim7 := { stood := { row := chainDecodesRow, standIns := [], harness := (true, "242a4f425bc2f7b75f5f22711f398380c781c6a0f118025f549cd4b6ce6f8e17"), looks := false }, kinds := [], alts := [], laidByText := true, laidKinds := [.data], laidTests := true, laidLooks := .later }
def ChainDecodesCardSaid : Prop := Claim7.holds Tryd.pinned (.plain (OpenSpec.ofChange chainDecodesSpec)) chainDecodesCard

/-- THE TIED CARD OF 'mementolaw22.ChainBreaks'. -/
def chainBreaksCard : Claim7 := { stood := { row := chainBreaksRow, standIns := [], harness := (true, "242a4f425bc2f7b75f5f22711f398380c781c6a0f118025f549cd4b6ce6f8e17"), looks := false }, kinds := [], alts := [], laidByText := true, laidKinds := [.data], laidTests := true, laidLooks := .later }
def ChainBreaksCardSaid : Prop := Claim7.holds Tryd.pinned (.plain (OpenSpec.ofChange chainBreaksSpec)) chainBreaksCard

/-- THE TIED CARD OF 'mementolaw22.ChainOverrides'. -/
def chainOverridesCard : Claim7 := { stood := { row := chainOverridesRow, standIns := [], harness := (true, "242a4f425bc2f7b75f5f22711f398380c781c6a0f118025f549cd4b6ce6f8e17"), looks := false }, kinds := [], alts := [], laidByText := true, laidKinds := [.data], laidTests := true, laidLooks := .later }
def ChainOverridesCardSaid : Prop := Claim7.holds Tryd.pinned (.plain (OpenSpec.ofChange chainOverridesSpec)) chainOverridesCard

/-- THE TIED CARD OF 'mementolaw22.ChainOne'. -/
def chainOneCard : Claim7 := { stood := { row := chainOneRow, standIns := [], harness := (true, "242a4f425bc2f7b75f5f22711f398380c781c6a0f118025f549cd4b6ce6f8e17"), looks := false }, kinds := [], alts := [], laidByText := true, laidKinds := [.data], laidTests := true, laidLooks := .later }
def ChainOneCardSaid : Prop := Claim7.holds Tryd.pinned (.plain (OpenSpec.ofChange chainOneSpec)) chainOneCard

/-- THE SECOND FORM's CARD OF 'mementolaw22.ChainMerges'. -/
def chainMergesUptoCard : Claim7 := { stood := { row := chainMergesUptoRow, standIns := [], harness := (true, "242a4f425bc2f7b75f5f22711f398380c781c6a0f118025f549cd4b6ce6f8e17"), looks := false }, kinds := [], alts := [], laidByText := true, laidKinds := [.data], laidTests := true, laidLooks := .later }
def ChainMergesUptoCardSaid : Prop := Claim7.holds Tryd.pinned (.plain (OpenSpec.upto chainMergesSpec)) chainMergesUptoCard

/-- THE SECOND FORM's CARD OF 'mementolaw22.ChainDecodes'. -/
def chainDecodesUptoCard : Claim7 := { stood := { row := chainDecodesUptoRow, standIns := [], harness := (true, "242a4f425bc2f7b75f5f22711f398380c781c6a0f118025f549cd4b6ce6f8e17"), looks := false }, kinds := [], alts := [], laidByText := true, laidKinds := [.data], laidTests := true, laidLooks := .later }
def ChainDecodesUptoCardSaid : Prop := Claim7.holds Tryd.pinned (.plain (OpenSpec.upto chainDecodesSpec)) chainDecodesUptoCard

/-- THE SECOND FORM's CARD OF 'mementolaw22.ChainBreaks'. -/
def chainBreaksUptoCard : Claim7 := { stood := { row := chainBreaksUptoRow, standIns := [], harness := (true, "242a4f425bc2f7b75f5f22711f398380c781c6a0f118025f549cd4b6ce6f8e17"), looks := false }, kinds := [], alts := [], laidByText := true, laidKinds := [.data], laidTests := true, laidLooks := .later }
def ChainBreaksUptoCardSaid : Prop := Claim7.holds Tryd.pinned (.plain (OpenSpec.upto chainBreaksSpec)) chainBreaksUptoCard

/-- THE SECOND FORM's CARD OF 'mementolaw22.ChainOverrides'. -/
def chainOverridesUptoCard : Claim7 := { stood := { row := chainOverridesUptoRow, standIns := [], harness := (true, "242a4f425bc2f7b75f5f22711f398380c781c6a0f118025f549cd4b6ce6f8e17"), looks := false }, kinds := [], alts := [], laidByText := true, laidKinds := [.data], laidTests := true, laidLooks := .later }
def ChainOverridesUptoCardSaid : Prop := Claim7.holds Tryd.pinned (.plain (OpenSpec.upto chainOverridesSpec)) chainOverridesUptoCard

/-- THE SECOND FORM's CARD OF 'mementolaw22.ChainOne'. -/
def chainOneUptoCard : Claim7 := { stood := { row := chainOneUptoRow, standIns := [], harness := (true, "242a4f425bc2f7b75f5f22711f398380c781c6a0f118025f549cd4b6ce6f8e17"), looks := false }, kinds := [], alts := [], laidByText := true, laidKinds := [.data], laidTests := true, laidLooks := .later }
def ChainOneUptoCardSaid : Prop := Claim7.holds Tryd.pinned (.plain (OpenSpec.upto chainOneSpec)) chainOneUptoCard
end Rows
end Go.Proofs.YtflcgpajodfkoaaDoor
