/-
  DERIVED. GIVEN WITH THE SEED: THE CARDS: each row of YtdkfimejabanlaaDoorRows.lean that lists a variable, with what it lists TIED to the program's text (the seventh form; the later family's looks); each row that meets fmt, with fmt's text TOLD by the authors' own Lean function (tested against real Go, not proved from fmt's source: count such statements apart). THE CARD IS WHAT COUNTS. Prove the row's statement (the work); the ties are given (YtdkfimejabanlaaDoorTie.lean); close each card by the builder's one call (the guide's Derived/Test/ToyasCard.lean, 'card_holds'). Laid BY PROGRAM, IN A SANDBOX (cutbox-door.mjs). By AI agents, Wed Nov 11 2026. No macro, syntax, notation, axiom, sorry.
-/
import Derived.Test.YtdkfimejabanlaaDoorRows
import GoSem.ClaimSeven
namespace Go.Proofs.YtdkfimejabanlaaDoor
namespace Rows

/-- THE TIED CARD OF 'hindsightlaw5.TyKnown'. -/
def tyKnownCard : Claim7 := { stood := { row := tyKnownRow, standIns := [], harness := (true, "10228d3a55192a27bbf95fa5f92936611c0ddf641e9e6e0e5bc72134756e9a7a"), looks := false }, kinds := [], alts := [], laidByText := true, laidKinds := [.data, .data, .data], laidTests := true, laidLooks := .later }
def TyKnownCardSaid : Prop := Claim7.holds Tryd.pinned (.plain (OpenSpec.ofChange tyKnownSpec)) tyKnownCard

/-- THE TIED CARD OF 'hindsightlaw5.TySays'. -/
def tySaysCard : Claim7 := { stood := { row := tySaysRow, standIns := [], harness := (true, "10228d3a55192a27bbf95fa5f92936611c0ddf641e9e6e0e5bc72134756e9a7a"), looks := false }, kinds := [], alts := [], laidByText := true, laidKinds := [.data, .data, .data], laidTests := true, laidLooks := .later }
def TySaysCardSaid : Prop := Claim7.holds Tryd.pinned (.plain (OpenSpec.ofChange tySaysSpec)) tySaysCard

/-- THE TIED CARD OF 'hindsightlaw5.TyUnifies'. -/
def tyUnifiesCard : Claim7 := { stood := { row := tyUnifiesRow, standIns := [], harness := (true, "10228d3a55192a27bbf95fa5f92936611c0ddf641e9e6e0e5bc72134756e9a7a"), looks := false }, kinds := [], alts := [], laidByText := true, laidKinds := [.data, .data, .data], laidTests := true, laidLooks := .later }
def TyUnifiesCardSaid : Prop := Claim7.holds Tryd.pinned (.plain (OpenSpec.ofChange tyUnifiesSpec)) tyUnifiesCard

/-- THE TIED CARD OF 'hindsightlaw5.TyOne'. -/
def tyOneCard : Claim7 := { stood := { row := tyOneRow, standIns := [], harness := (true, "10228d3a55192a27bbf95fa5f92936611c0ddf641e9e6e0e5bc72134756e9a7a"), looks := false }, kinds := [], alts := [], laidByText := true, laidKinds := [.data, .data, .data], laidTests := true, laidLooks := .later }
def TyOneCardSaid : Prop := Claim7.holds Tryd.pinned (.plain (OpenSpec.ofChange tyOneSpec)) tyOneCard

/-- THE TIED CARD OF 'hindsightlaw5.TyRenamed'. -/
def tyRenamedCard : Claim7 := { stood := { row := tyRenamedRow, standIns := [], harness := (true, "10228d3a55192a27bbf95fa5f92936611c0ddf641e9e6e0e5bc72134756e9a7a"), looks := false }, kinds := [], alts := [], laidByText := true, laidKinds := [.data, .data, .data], laidTests := true, laidLooks := .later }
def TyRenamedCardSaid : Prop := Claim7.holds Tryd.pinned (.plain (OpenSpec.ofChange tyRenamedSpec)) tyRenamedCard

/-- THE TIED CARD OF 'hindsightlaw5.TyOrder'. -/
def tyOrderCard : Claim7 := { stood := { row := tyOrderRow, standIns := [], harness := (true, "10228d3a55192a27bbf95fa5f92936611c0ddf641e9e6e0e5bc72134756e9a7a"), looks := false }, kinds := [], alts := [], laidByText := true, laidKinds := [.data, .data, .data], laidTests := true, laidLooks := .later }
def TyOrderCardSaid : Prop := Claim7.holds Tryd.pinned (.plain (OpenSpec.ofChange tyOrderSpec)) tyOrderCard

/-- THE TIED CARD OF 'hindsightlaw5.TyFresh'. -/
def tyFreshCard : Claim7 := { stood := { row := tyFreshRow, standIns := [], harness := (true, "10228d3a55192a27bbf95fa5f92936611c0ddf641e9e6e0e5bc72134756e9a7a"), looks := false }, kinds := [], alts := [], laidByText := true, laidKinds := [.data, .data, .data], laidTests := true, laidLooks := .later }
def TyFreshCardSaid : Prop := Claim7.holds Tryd.pinned (.plain (OpenSpec.ofChange tyFreshSpec)) tyFreshCard

/-- THE SECOND FORM's CARD OF 'hindsightlaw5.TyKnown'. -/
def tyKnownUptoCard : Claim7 := { stood := { row := tyKnownUptoRow, standIns := [], harness := (true, "10228d3a55192a27bbf95fa5f92936611c0ddf641e9e6e0e5bc72134756e9a7a"), looks := false }, kinds := [], alts := [], laidByText := true, laidKinds := [.data, .data, .data], laidTests := true, laidLooks := .later }
def TyKnownUptoCardSaid : Prop := Claim7.holds Tryd.pinned (.plain (OpenSpec.upto tyKnownSpec)) tyKnownUptoCard

/-- THE SECOND FORM's CARD OF 'hindsightlaw5.TySays'. -/
def tySaysUptoCard : Claim7 := { stood := { row := tySaysUptoRow, standIns := [], harness := (true, "10228d3a55192a27bbf95fa5f92936611c0ddf641e9e6e0e5bc72134756e9a7a"), looks := false }, kinds := [], alts := [], laidByText := true, laidKinds := [.data, .data, .data], laidTests := true, laidLooks := .later }
def TySaysUptoCardSaid : Prop := Claim7.holds Tryd.pinned (.plain (OpenSpec.upto tySaysSpec)) tySaysUptoCard

/-- THE SECOND FORM's CARD OF 'hindsightlaw5.TyUnifies'. -/
def tyUnifiesUptoCard : Claim7 := { stood := { row := tyUnifiesUptoRow, standIns := [], harness := (true, "10228d3a55192a27bbf95fa5f92936611c0ddf641e9e6e0e5bc72134756e9a7a"), looks := false }, kinds := [], alts := [], laidByText := true, laidKinds := [.data, .data, .data], laidTests := true, laidLooks := .later }
def TyUnifiesUptoCardSaid : Prop := Claim7.holds Tryd.pinned (.plain (OpenSpec.upto tyUnifiesSpec)) tyUnifiesUptoCard

/-- THE SECOND FORM's CARD OF 'hindsightlaw5.TyOne'. -/
def tyOneUptoCard : Claim7 := { stood := { row := tyOneUptoRow, standIns := [], harness := (true, "10228d3a55192a27bbf95fa5f92936611c0ddf641e9e6e0e5bc72134756e9a7a"), looks := false }, kinds := [], alts := [], laidByText := true, laidKinds := [.data, .data, .data], laidTests := true, laidLooks := .later }
def TyOneUptoCardSaid : Prop := Claim7.holds Tryd.pinned (.plain (OpenSpec.upto tyOneSpec)) tyOneUptoCard

/-- THE SECOND FORM's CARD OF 'hindsightlaw5.TyRenamed'. -/
def tyRenamedUptoCard : Claim7 := { stood := { row := tyRenamedUptoRow, standIns := [], harness := (true, "10228d3a55192a27bbf95fa5f92936611c0ddf641e9e6e0e5bc72134756e9a7a"), looks := false }, kinds := [], alts := [], laidByText := true, laidKinds := [.data, .data, .data], laidTests := true, laidLooks := .later }
def TyRenamedUptoCardSaid : Prop := Claim7.holds Tryd.pinned (.plain (OpenSpec.upto tyRenamedSpec)) tyRenamedUptoCard

/-- THE SECOND FORM's CARD OF 'hindsightlaw5.TyOrder'. -/
def tyOrderUptoCard : Claim7 := { stood := { row := tyOrderUptoRow, standIns := [], harness := (true, "10228d3a55192a27bbf95fa5f92936611c0ddf641e9e6e0e5bc72134756e9a7a"), looks := false }, kinds := [], alts := [], laidByText := true, laidKinds := [.data, .data, .data], laidTests := true, laidLooks := .later }
def TyOrderUptoCardSaid : Prop := Claim7.holds Tryd.pinned (.plain (OpenSpec.upto tyOrderSpec)) tyOrderUptoCard

/-- THE SECOND FORM's CARD OF 'hindsightlaw5.TyFresh'. -/
def tyFreshUptoCard : Claim7 := { stood := { row := tyFreshUptoRow, standIns := [], harness := (true, "10228d3a55192a27bbf95fa5f92936611c0ddf641e9e6e0e5bc72134756e9a7a"), looks := false }, kinds := [], alts := [], laidByText := true, laidKinds := [.data, .data, .data], laidTests := true, laidLooks := .later }
def TyFreshUptoCardSaid : Prop := Claim7.holds Tryd.pinned (.plain (OpenSpec.upto tyFreshSpec)) tyFreshUptoCard
end Rows
end Go.Proofs.YtdkfimejabanlaaDoor
