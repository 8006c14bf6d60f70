/-
  DERIVED. GIVEN WITH THE SEED: THE CARDS: each row of YtifopogkbjhkjaaGreatDoorRows.lean that lists a variable, with what it lists TIED to the program's text (the seventh form; the later family's looks); each row that meets fmt, with fmt's text TOLD by the authors' own Lean function (tested against real Go, not proved from fmt's source: count such statements apart). THE CARD IS WHAT COUNTS. Prove the row's statement (the work); the ties are given (YtifopogkbjhkjaaGreatDoorTie.lean); close each card by the builder's one call (the guide's Derived/Test/ToyasCard.lean, 'card_holds'). Laid BY PROGRAM, IN A SANDBOX (cutbox-door.mjs). By AI agents, Wed Nov 11 2026. No macro, syntax, notation, axiom, sorry.
-/
import Derived.Test.YtifopogkbjhkjaaGreatDoorRows
import GoSem.ClaimSeven
namespace Go.Proofs.YtifopogkbjhkjaaGreatDoor
namespace Rows

/-- THE TIED CARD OF 'hindsightlaw6.SchemeSays'. -/
def schemeSaysCard : Claim7 := { stood := { row := schemeSaysRow, standIns := [], harness := (true, "8eb540ac50915c60b0280cd9f6861d13adfb3bc566f03b09b08961c10b240fba"), looks := false }, kinds := [], alts := [], laidByText := true, laidKinds := [.data, .data, .data], laidTests := true, laidLooks := .later }
def SchemeSaysCardSaid : Prop := Claim7.holds Tryz.pinned (.plain (OpenSpec.ofChange schemeSaysSpec)) schemeSaysCard

/-- THE SECOND FORM's CARD OF 'hindsightlaw6.SchemeSays'. -/
def schemeSaysUptoCard : Claim7 := { stood := { row := schemeSaysUptoRow, standIns := [], harness := (true, "8eb540ac50915c60b0280cd9f6861d13adfb3bc566f03b09b08961c10b240fba"), looks := false }, kinds := [], alts := [], laidByText := true, laidKinds := [.data, .data, .data], laidTests := true, laidLooks := .later }
def SchemeSaysUptoCardSaid : Prop := Claim7.holds Tryz.pinned (.plain (OpenSpec.upto schemeSaysSpec)) schemeSaysUptoCard
end Rows
end Go.Proofs.YtifopogkbjhkjaaGreatDoor
