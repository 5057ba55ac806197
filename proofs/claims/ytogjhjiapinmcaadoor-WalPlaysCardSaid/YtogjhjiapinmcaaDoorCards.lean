/-
  DERIVED. GIVEN WITH THE SEED: THE CARDS: each row of YtogjhjiapinmcaaDoorRows.lean that lists a variable, with what it lists TIED to the program's text (the seventh form; the later family's looks); each row that meets fmt, with fmt's text TOLD by the authors' own Lean function (tested against real Go, not proved from fmt's source: count such statements apart). THE CARD IS WHAT COUNTS. Prove the row's statement (the work); the ties are given (YtogjhjiapinmcaaDoorTie.lean); close each card by the builder's one call (the guide's Derived/Test/ToyasCard.lean, 'card_holds'). Laid BY PROGRAM, IN A SANDBOX (cutbox-door.mjs). By AI agents, Wed Nov 11 2026. No macro, syntax, notation, axiom, sorry.
-/
import Derived.Test.YtogjhjiapinmcaaDoorRows
import GoSem.ClaimSeven
namespace Go.Proofs.YtogjhjiapinmcaaDoor
namespace Rows

/-- THE TIED CARD OF 'mementolaw5.WalPlays'. -/
def walPlaysCard : Claim7 := { stood := { row := walPlaysRow, standIns := [], harness := (true, "6e128acef879c03bc3a7060a1b562ada42e3b43e6c0dd421eab3f8b8806a88e8"), looks := false }, kinds := [], alts := [], laidByText := true, laidKinds := [.data], laidTests := true, laidLooks := .later }
def WalPlaysCardSaid : Prop := Claim7.holds Tryd.pinned (.plain (OpenSpec.ofChange walPlaysSpec)) walPlaysCard

/-- THE TIED CARD OF 'mementolaw5.WalEnds'. -/
def walEndsCard : Claim7 := { stood := { row := walEndsRow, standIns := [], harness := (true, "6e128acef879c03bc3a7060a1b562ada42e3b43e6c0dd421eab3f8b8806a88e8"), looks := false }, kinds := [], alts := [], laidByText := true, laidKinds := [.data], laidTests := true, laidLooks := .later }
def WalEndsCardSaid : Prop := Claim7.holds Tryd.pinned (.plain (OpenSpec.ofChange walEndsSpec)) walEndsCard

/-- THE TIED CARD OF 'mementolaw5.WalSizes'. -/
def walSizesCard : Claim7 := { stood := { row := walSizesRow, standIns := [], harness := (true, "6e128acef879c03bc3a7060a1b562ada42e3b43e6c0dd421eab3f8b8806a88e8"), looks := false }, kinds := [], alts := [], laidByText := true, laidKinds := [.data], laidTests := true, laidLooks := .later }
def WalSizesCardSaid : Prop := Claim7.holds Tryd.pinned (.plain (OpenSpec.ofChange walSizesSpec)) walSizesCard

/-- THE TIED CARD OF 'mementolaw5.WalGens'. -/
def walGensCard : Claim7 := { stood := { row := walGensRow, standIns := [], harness := (true, "6e128acef879c03bc3a7060a1b562ada42e3b43e6c0dd421eab3f8b8806a88e8"), looks := false }, kinds := [], alts := [], laidByText := true, laidKinds := [.data], laidTests := true, laidLooks := .later }
def WalGensCardSaid : Prop := Claim7.holds Tryd.pinned (.plain (OpenSpec.ofChange walGensSpec)) walGensCard

/-- THE SECOND FORM's CARD OF 'mementolaw5.WalPlays'. -/
def walPlaysUptoCard : Claim7 := { stood := { row := walPlaysUptoRow, standIns := [], harness := (true, "6e128acef879c03bc3a7060a1b562ada42e3b43e6c0dd421eab3f8b8806a88e8"), looks := false }, kinds := [], alts := [], laidByText := true, laidKinds := [.data], laidTests := true, laidLooks := .later }
def WalPlaysUptoCardSaid : Prop := Claim7.holds Tryd.pinned (.plain (OpenSpec.upto walPlaysSpec)) walPlaysUptoCard

/-- THE SECOND FORM's CARD OF 'mementolaw5.WalEnds'. -/
def walEndsUptoCard : Claim7 := { stood := { row := walEndsUptoRow, standIns := [], harness := (true, "6e128acef879c03bc3a7060a1b562ada42e3b43e6c0dd421eab3f8b8806a88e8"), looks := false }, kinds := [], alts := [], laidByText := true, laidKinds := [.data], laidTests := true, laidLooks := .later }
def WalEndsUptoCardSaid : Prop := Claim7.holds Tryd.pinned (.plain (OpenSpec.upto walEndsSpec)) walEndsUptoCard

/-- THE SECOND FORM's CARD OF 'mementolaw5.WalSizes'. -/
def walSizesUptoCard : Claim7 := { stood := { row := walSizesUptoRow, standIns := [], harness := (true, "6e128acef879c03bc3a7060a1b562ada42e3b43e6c0dd421eab3f8b8806a88e8"), looks := false }, kinds := [], alts := [], laidByText := true, laidKinds := [.data], laidTests := true, laidLooks := .later }
def WalSizesUptoCardSaid : Prop := Claim7.holds Tryd.pinned (.plain (OpenSpec.upto walSizesSpec)) walSizesUptoCard

/-- THE SECOND FORM's CARD OF 'mementolaw5.WalGens'. -/
def walGensUptoCard : Claim7 := { stood := { row := walGensUptoRow, standIns := [], harness := (true, "6e128acef879c03bc3a7060a1b562ada42e3b43e6c0dd421eab3f8b8806a88e8"), looks := false }, kinds := [], alts := [], laidByText := true, laidKinds := [.data], laidTests := true, laidLooks := .later }
def WalGensUptoCardSaid : Prop := Claim7.holds Tryd.pinned (.plain (OpenSpec.upto walGensSpec)) walGensUptoCard
end Rows
end Go.Proofs.YtogjhjiapinmcaaDoor
