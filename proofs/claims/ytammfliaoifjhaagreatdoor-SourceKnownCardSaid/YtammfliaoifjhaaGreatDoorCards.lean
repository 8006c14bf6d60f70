/-
  DERIVED. GIVEN WITH THE SEED: THE CARDS: each row of YtammfliaoifjhaaGreatDoorRows.lean that lists a variable, with what it lists TIED to the program's text (the seventh form; the later family's looks); each row that meets fmt, with fmt's text TOLD by the authors' own Lean function (tested against real Go, not proved from fmt's source: count such statements apart). THE CARD IS WHAT COUNTS. Prove the row's statement (the work); the ties are given (YtammfliaoifjhaaGreatDoorTie.lean); close each card by the builder's one call (the guide's Derived/Test/ToyasCard.lean, 'card_holds'). Laid BY PROGRAM, IN A SANDBOX (cutbox-door.mjs). By AI agents, Wed Nov 11 2026. No macro, syntax, notation, axiom, sorry.
-/
import Derived.Test.YtammfliaoifjhaaGreatDoorRows
import GoSem.ClaimSeven
namespace Go.Proofs.YtammfliaoifjhaaGreatDoor
namespace Rows

/-- THE TIED CARD OF 'hindsightlaw10.SourceKnown'. -/
def sourceKnownCard : Claim7 := { stood := { row := sourceKnownRow, standIns := [], harness := (true, "4f8f7a2ef9a6a4379f09b27a6bdc5f9707c6ad4d05f17ffedca480faeb83613a"), looks := false }, kinds := [], alts := [], laidByText := true, laidKinds := [.data, .pinned, .pinned], laidTests := true, laidLooks := .later }
def SourceKnownCardSaid : Prop := Claim7.holds Tryz.pinned (.plain (OpenSpec.ofChange sourceKnownSpec)) sourceKnownCard

/-- THE SECOND FORM's CARD OF 'hindsightlaw10.SourceKnown'. -/
def sourceKnownUptoCard : Claim7 := { stood := { row := sourceKnownUptoRow, standIns := [], harness := (true, "4f8f7a2ef9a6a4379f09b27a6bdc5f9707c6ad4d05f17ffedca480faeb83613a"), looks := false }, kinds := [], alts := [], laidByText := true, laidKinds := [.data, .pinned, .pinned], laidTests := true, laidLooks := .later }
def SourceKnownUptoCardSaid : Prop := Claim7.holds Tryz.pinned (.plain (OpenSpec.upto sourceKnownSpec)) sourceKnownUptoCard
end Rows
end Go.Proofs.YtammfliaoifjhaaGreatDoor
