/-
  DERIVED. GIVEN WITH THE SEED: THE CARDS: each row of YtmikicanjmiigaaGreatDoorRows.lean that lists a variable, with what it lists TIED to the program's text (the seventh form; the later family's looks); each row that meets fmt, with fmt's text TOLD by the authors' own Lean function (tested against real Go, not proved from fmt's source: count such statements apart). THE CARD IS WHAT COUNTS. Prove the row's statement (the work); the ties are given (YtmikicanjmiigaaGreatDoorTie.lean); close each card by the builder's one call (the guide's Derived/Test/ToyasCard.lean, 'card_holds'). Laid BY PROGRAM, IN A SANDBOX (cutbox-door.mjs). By AI agents, Wed Nov 11 2026. No macro, syntax, notation, axiom, sorry.
-/
import Derived.Test.YtmikicanjmiigaaGreatDoorRows
import GoSem.ClaimSeven
namespace Go.Proofs.YtmikicanjmiigaaGreatDoor
namespace Rows

/-- THE TIED CARD OF 'hindsightlaw23.ReplayKnown'. -/
def replayKnownCard : Claim7 := { stood := { row := replayKnownRow, standIns := [], harness := (true, "94f1baf56bee123641fc3bfa3df3bb112ac8961fbf884540c75e2a9fd8cc221e"), looks := true }, kinds := [], alts := [], laidByText := true, laidKinds := [.pinned, .data, .data, .pinned, .pinned, .sentinel, .sentinel, .data, .data, .data], laidTests := true, laidLooks := .later }
def ReplayKnownCardSaid : Prop := Claim7.holds Tryz.pinned (.plain (OpenSpec.ofChange replayKnownSpec)) replayKnownCard

/-- THE SECOND FORM's CARD OF 'hindsightlaw23.ReplayKnown'. -/
def replayKnownUptoCard : Claim7 := { stood := { row := replayKnownUptoRow, standIns := [], harness := (true, "94f1baf56bee123641fc3bfa3df3bb112ac8961fbf884540c75e2a9fd8cc221e"), looks := true }, kinds := [], alts := [], laidByText := true, laidKinds := [.pinned, .data, .data, .pinned, .pinned, .sentinel, .sentinel, .data, .data, .data], laidTests := true, laidLooks := .later }
def ReplayKnownUptoCardSaid : Prop := Claim7.holds Tryz.pinned (.plain (OpenSpec.upto replayKnownSpec)) replayKnownUptoCard
end Rows
end Go.Proofs.YtmikicanjmiigaaGreatDoor
