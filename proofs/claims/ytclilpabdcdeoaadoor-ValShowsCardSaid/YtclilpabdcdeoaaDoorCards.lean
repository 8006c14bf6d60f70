/-
  DERIVED. GIVEN WITH THE SEED: THE CARDS: each row of YtclilpabdcdeoaaDoorRows.lean that lists a variable, with what it lists TIED to the program's text (the seventh form; the later family's looks); each row that meets fmt, with fmt's text TOLD by the authors' own Lean function (tested against real Go, not proved from fmt's source: count such statements apart). THE CARD IS WHAT COUNTS. Prove the row's statement (the work); the ties are given (YtclilpabdcdeoaaDoorTie.lean); close each card by the builder's one call (the guide's Derived/Test/ToyasCard.lean, 'card_holds'). Laid BY PROGRAM, IN A SANDBOX (cutbox-door.mjs). By AI agents, Wed Nov 11 2026. No macro, syntax, notation, axiom, sorry.
-/
import Derived.Test.YtclilpabdcdeoaaDoorRows
import GoSem.ClaimSeven
namespace Go.Proofs.YtclilpabdcdeoaaDoor
namespace Rows

/-- THE TIED CARD OF 'hindsightlaw9.ValKnown'. -/
def valKnownCard : Claim7 := { stood := { row := valKnownRow, standIns := [], harness := (true, "d60ed29c94a76f3f1283d95b7805798e60b08fbb5d810b9ab30bc4343e8eb8a7"), looks := false }, kinds := [], alts := [], laidByText := true, laidKinds := [.data, .data, .data], laidTests := true, laidLooks := .later }
def ValKnownCardSaid : Prop := Claim7.holds Tryd.pinned (.plain (OpenSpec.ofChange valKnownSpec)) valKnownCard

/-- THE TIED CARD OF 'hindsightlaw9.ValOps'. -/
def valOpsCard : Claim7 := { stood := { row := valOpsRow, standIns := [], harness := (true, "d60ed29c94a76f3f1283d95b7805798e60b08fbb5d810b9ab30bc4343e8eb8a7"), looks := false }, kinds := [], alts := [], laidByText := true, laidKinds := [.data, .data, .data], laidTests := true, laidLooks := .later }
def ValOpsCardSaid : Prop := Claim7.holds Tryd.pinned (.plain (OpenSpec.ofChange valOpsSpec)) valOpsCard

/-- THE TIED CARD OF 'hindsightlaw9.ValShows'. -/
def valShowsCard : Claim7 := { stood := { row := valShowsRow, standIns := [], harness := (true, "d60ed29c94a76f3f1283d95b7805798e60b08fbb5d810b9ab30bc4343e8eb8a7"), looks := false }, kinds := [], alts := [], laidByText := true, laidKinds := [.data, .data, .data], laidTests := true, laidLooks := .later }
def ValShowsCardSaid : Prop := Claim7.holds Tryd.pinned (.plain (OpenSpec.ofChange valShowsSpec)) valShowsCard

/-- THE TIED CARD OF 'hindsightlaw9.ValFinds'. -/
def valFindsCard : Claim7 := { stood := { row := valFindsRow, standIns := [], harness := (true, "d60ed29c94a76f3f1283d95b7805798e60b08fbb5d810b9ab30bc4343e8eb8a7"), looks := false }, kinds := [], alts := [], laidByText := true, laidKinds := [.data, .data, .data], laidTests := true, laidLooks := .later }
def ValFindsCardSaid : Prop := Claim7.holds Tryd.pinned (.plain (OpenSpec.ofChange valFindsSpec)) valFindsCard

/-- THE TIED CARD OF 'hindsightlaw9.ValRing'. -/
def valRingCard : Claim7 := { stood := { row := valRingRow, standIns := [], harness := (true, "d60ed29c94a76f3f1283d95b7805798e60b08fbb5d810b9ab30bc4343e8eb8a7"), looks := false }, kinds := [], alts := [], laidByText := true, laidKinds := [.data, .data, .data], laidTests := true, laidLooks := .later }
def ValRingCardSaid : Prop := Claim7.holds Tryd.pinned (.plain (OpenSpec.ofChange valRingSpec)) valRingCard

/-- THE TIED CARD OF 'hindsightlaw9.ValKinds'. -/
def valKindsCard : Claim7 := { stood := { row := valKindsRow, standIns := [], harness := (true, "d60ed29c94a76f3f1283d95b7805798e60b08fbb5d810b9ab30bc4343e8eb8a7"), looks := false }, kinds := [], alts := [], laidByText := true, laidKinds := [.data, .data, .data], laidTests := true, laidLooks := .later }
def ValKindsCardSaid : Prop := Claim7.holds Tryd.pinned (.plain (OpenSpec.ofChange valKindsSpec)) valKindsCard

/-- THE SECOND FORM's CARD OF 'hindsightlaw9.ValKnown'. -/
def valKnownUptoCard : Claim7 := { stood := { row := valKnownUptoRow, standIns := [], harness := (true, "d60ed29c94a76f3f1283d95b7805798e60b08fbb5d810b9ab30bc4343e8eb8a7"), looks := false }, kinds := [], alts := [], laidByText := true, laidKinds := [.data, .data, .data], laidTests := true, laidLooks := .later }
def ValKnownUptoCardSaid : Prop := Claim7.holds Tryd.pinned (.plain (OpenSpec.upto valKnownSpec)) valKnownUptoCard

/-- THE SECOND FORM's CARD OF 'hindsightlaw9.ValOps'. -/
def valOpsUptoCard : Claim7 := { stood := { row := valOpsUptoRow, standIns := [], harness := (true, "d60ed29c94a76f3f1283d95b7805798e60b08fbb5d810b9ab30bc4343e8eb8a7"), looks := false }, kinds := [], alts := [], laidByText := true, laidKinds := [.data, .data, .data], laidTests := true, laidLooks := .later }
def ValOpsUptoCardSaid : Prop := Claim7.holds Tryd.pinned (.plain (OpenSpec.upto valOpsSpec)) valOpsUptoCard

/-- THE SECOND FORM's CARD OF 'hindsightlaw9.ValShows'. -/
def valShowsUptoCard : Claim7 := { stood := { row := valShowsUptoRow, standIns := [], harness := (true, "d60ed29c94a76f3f1283d95b7805798e60b08fbb5d810b9ab30bc4343e8eb8a7"), looks := false }, kinds := [], alts := [], laidByText := true, laidKinds := [.data, .data, .data], laidTests := true, laidLooks := .later }
def ValShowsUptoCardSaid : Prop := Claim7.holds Tryd.pinned (.plain (OpenSpec.upto valShowsSpec)) valShowsUptoCard

/-- THE SECOND FORM's CARD OF 'hindsightlaw9.ValFinds'. -/
def valFindsUptoCard : Claim7 := { stood := { row := valFindsUptoRow, standIns := [], harness := (true, "d60ed29c94a76f3f1283d95b7805798e60b08fbb5d810b9ab30bc4343e8eb8a7"), looks := false }, kinds := [], alts := [], laidByText := true, laidKinds := [.data, .data, .data], laidTests := true, laidLooks := .later }
def ValFindsUptoCardSaid : Prop := Claim7.holds Tryd.pinned (.plain (OpenSpec.upto valFindsSpec)) valFindsUptoCard

/-- THE SECOND FORM's CARD OF 'hindsightlaw9.ValRing'. -/
def valRingUptoCard : Claim7 := { stood := { row := valRingUptoRow, standIns := [], harness := (true, "d60ed29c94a76f3f1283d95b7805798e60b08fbb5d810b9ab30bc4343e8eb8a7"), looks := false }, kinds := [], alts := [], laidByText := true, laidKinds := [.data, .data, .data], laidTests := true, laidLooks := .later }
def ValRingUptoCardSaid : Prop := Claim7.holds Tryd.pinned (.plain (OpenSpec.upto valRingSpec)) valRingUptoCard

/-- THE SECOND FORM's CARD OF 'hindsightlaw9.ValKinds'. -/
def valKindsUptoCard : Claim7 := { stood := { row := valKindsUptoRow, standIns := [], harness := (true, "d60ed29c94a76f3f1283d95b7805798e60b08fbb5d810b9ab30bc4343e8eb8a7"), looks := false }, kinds := [], alts := [], laidByText := true, laidKinds := [.data, .data, .data], laidTests := true, laidLooks := .later }
def ValKindsUptoCardSaid : Prop := Claim7.holds Tryd.pinned (.plain (OpenSpec.upto valKindsSpec)) valKindsUptoCard
end Rows
end Go.Proofs.YtclilpabdcdeoaaDoor
