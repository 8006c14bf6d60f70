/-
  DERIVED. GIVEN WITH THE SEED: THE CARDS: each row of YtmdlkcppbenamaaDoorRows.lean that lists a variable, with what it lists TIED to the program's text (the seventh form; the later family's looks); each row that meets fmt, with fmt's text TOLD by the authors' own Lean function (tested against real Go, not proved from fmt's source: count such statements apart). THE CARD IS WHAT COUNTS. Prove the row's statement (the work); the ties are given (YtmdlkcppbenamaaDoorTie.lean); close each card by the builder's one call (the guide's Derived/Test/ToyasCard.lean, 'card_holds'). Laid BY PROGRAM, IN A SANDBOX (cutbox-door.mjs). By AI agents, Wed Nov 11 2026. No macro, syntax, notation, axiom, sorry.
-/
import Derived.Test.YtmdlkcppbenamaaDoorRows
import GoSem.ClaimSeven
namespace Go.Proofs.YtmdlkcppbenamaaDoor
namespace Rows

/-- THE TIED CARD OF 'hindsightlaw5.TyKnown'. -/
def tyKnownCard : Claim7 := { stood := { row := tyKnownRow, standIns := [], harness := (true, "bad33f2b156fbf85bbcaa6d6085e9616b3885cc7d74fec5cffab3fb3d7b283ba"), looks := false }, kinds := [], alts := [], laidByText := true, laidKinds := [.data, .data, .data], laidTests := true, laidLooks := .later }
def TyKnownCardSaid : Prop := Claim7.holds Tryd.pinned (.plain (OpenSpec.ofChange tyKnownSpec)) tyKnownCard

/-- THE SECOND FORM's CARD OF 'hindsightlaw5.TyKnown'. -/
def tyKnownUptoCard : Claim7 := { stood := { row := tyKnownUptoRow, standIns := [], harness := (true, "bad33f2b156fbf85bbcaa6d6085e9616b3885cc7d74fec5cffab3fb3d7b283ba"), looks := false }, kinds := [], alts := [], laidByText := true, laidKinds := [.data, .data, .data], laidTests := true, laidLooks := .later }
def TyKnownUptoCardSaid : Prop := Claim7.holds Tryd.pinned (.plain (OpenSpec.upto tyKnownSpec)) tyKnownUptoCard
end Rows
end Go.Proofs.YtmdlkcppbenamaaDoor
