/-
  DERIVED. GIVEN WITH THE SEED: THE CARDS: each row of YtllphmchdhgnnaaGreatDoorRows.lean that lists a variable, with what it lists TIED to the program's text (the seventh form; the later family's looks); each row that meets fmt, with fmt's text TOLD by the authors' own Lean function (tested against real Go, not proved from fmt's source: count such statements apart). THE CARD IS WHAT COUNTS. Prove the row's statement (the work); the ties are given (YtllphmchdhgnnaaGreatDoorTie.lean); close each card by the builder's one call (the guide's Derived/Test/ToyasCard.lean, 'card_holds'). Laid BY PROGRAM, IN A SANDBOX (cutbox-door.mjs). By AI agents, Wed Nov 11 2026. No macro, syntax, notation, axiom, sorry.
-/
import Derived.Test.YtllphmchdhgnnaaGreatDoorRows
import GoSem.ClaimSeven
namespace Go.Proofs.YtllphmchdhgnnaaGreatDoor
namespace Rows

/-- THE TIED CARD OF 'hindsightlaw7.InferKnown'. -/
def inferKnownCard : Claim7 := { stood := { row := inferKnownRow, standIns := [], harness := (true, "ec3075e1901b79643fad52501a5ae41c960a4a7d322824458e8b5381afb2243a"), looks := false }, kinds := [], alts := [], laidByText := true, laidKinds := [.data, .data, .data, .data, .pinned, .pinned], laidTests := true, laidLooks := .later }
def InferKnownCardSaid : Prop := Claim7.holds Tryz.pinned (.plain (OpenSpec.ofChange inferKnownSpec)) inferKnownCard

/-- THE TIED CARD OF 'hindsightlaw8.CoverKnown'. -/
def coverKnownCard : Claim7 := { stood := { row := coverKnownRow, standIns := [], harness := (true, "ec3075e1901b79643fad52501a5ae41c960a4a7d322824458e8b5381afb2243a"), looks := false }, kinds := [], alts := [], laidByText := true, laidKinds := [.data, .pinned, .pinned], laidTests := true, laidLooks := .later }
def CoverKnownCardSaid : Prop := Claim7.holds Tryz.pinned (.plain (OpenSpec.ofChange coverKnownSpec)) coverKnownCard

/-- THE TIED CARD OF 'hindsightlaw13.SlotKnown'. -/
def slotKnownCard : Claim7 := { stood := { row := slotKnownRow, standIns := [], harness := (true, "ec3075e1901b79643fad52501a5ae41c960a4a7d322824458e8b5381afb2243a"), looks := false }, kinds := [], alts := [], laidByText := true, laidKinds := [.data, .pinned, .pinned], laidTests := true, laidLooks := .later }
def SlotKnownCardSaid : Prop := Claim7.holds Tryz.pinned (.plain (OpenSpec.ofChange slotKnownSpec)) slotKnownCard

/-- THE SECOND FORM's CARD OF 'hindsightlaw7.InferKnown'. -/
def inferKnownUptoCard : Claim7 := { stood := { row := inferKnownUptoRow, standIns := [], harness := (true, "ec3075e1901b79643fad52501a5ae41c960a4a7d322824458e8b5381afb2243a"), looks := false }, kinds := [], alts := [], laidByText := true, laidKinds := [.data, .data, .data, .data, .pinned, .pinned], laidTests := true, laidLooks := .later }
def InferKnownUptoCardSaid : Prop := Claim7.holds Tryz.pinned (.plain (OpenSpec.upto inferKnownSpec)) inferKnownUptoCard

/-- THE SECOND FORM's CARD OF 'hindsightlaw8.CoverKnown'. -/
def coverKnownUptoCard : Claim7 := { stood := { row := coverKnownUptoRow, standIns := [], harness := (true, "ec3075e1901b79643fad52501a5ae41c960a4a7d322824458e8b5381afb2243a"), looks := false }, kinds := [], alts := [], laidByText := true, laidKinds := [.data, .pinned, .pinned], laidTests := true, laidLooks := .later }
def CoverKnownUptoCardSaid : Prop := Claim7.holds Tryz.pinned (.plain (OpenSpec.upto coverKnownSpec)) coverKnownUptoCard

/-- THE SECOND FORM's CARD OF 'hindsightlaw13.SlotKnown'. -/
def slotKnownUptoCard : Claim7 := { stood := { row := slotKnownUptoRow, standIns := [], harness := (true, "ec3075e1901b79643fad52501a5ae41c960a4a7d322824458e8b5381afb2243a"), looks := false }, kinds := [], alts := [], laidByText := true, laidKinds := [.data, .pinned, .pinned], laidTests := true, laidLooks := .later }
def SlotKnownUptoCardSaid : Prop := Claim7.holds Tryz.pinned (.plain (OpenSpec.upto slotKnownSpec)) slotKnownUptoCard
end Rows
end Go.Proofs.YtllphmchdhgnnaaGreatDoor
