/-
  DERIVED. GIVEN WITH THE SEED: THE CARDS: each row of YtpijdbajonddlaaDoorRows.lean that lists a variable, with what it lists TIED to the program's text (the seventh form; the later family's looks); each row that meets fmt, with fmt's text TOLD by the authors' own Lean function (tested against real Go, not proved from fmt's source: count such statements apart). THE CARD IS WHAT COUNTS. Prove the row's statement (the work); the ties are given (YtpijdbajonddlaaDoorTie.lean); close each card by the builder's one call (the guide's Derived/Test/ToyasCard.lean, 'card_holds'). Laid BY PROGRAM, IN A SANDBOX (cutbox-door.mjs). By AI agents, Wed Nov 11 2026. No macro, syntax, notation, axiom, sorry.
-/
import Derived.Test.YtpijdbajonddlaaDoorRows
import GoSem.ClaimSeven
namespace Go.Proofs.YtpijdbajonddlaaDoor
namespace Rows

/-- THE TIED CARD OF 'linkboylaw09.StrideOf'. -/
def strideOfCard : Claim7 := { stood := { row := strideOfRow, standIns := [], harness := (true, "08ace9ce82c5c845d9d3ff389f4d02cc9e44cc2886d81b2b51cdff30ff21eb93"), looks := true }, kinds := [], alts := [], laidByText := true, laidKinds := [.sentinel, .sentinel, .sentinel, .sentinel, .sentinel, .sentinel, .sentinel, .sentinel, .sentinel, .sentinel, .sentinel, .sentinel, .sentinel, .sentinel, .sentinel, .sentinel, .sentinel, .sentinel, .data], laidTests := true, laidLooks := .later }
def StrideOfCardSaid : Prop := Claim7.holds Tryd.pinned (.plain (OpenSpec.ofChange strideOfSpec)) strideOfCard

/-- THE TIED CARD OF 'linkboylaw09.StridePlaces'. -/
def stridePlacesCard : Claim7 := { stood := { row := stridePlacesRow, standIns := [], harness := (true, "08ace9ce82c5c845d9d3ff389f4d02cc9e44cc2886d81b2b51cdff30ff21eb93"), looks := true }, kinds := [], alts := [], laidByText := true, laidKinds := [.sentinel, .sentinel], laidTests := true, laidLooks := .later }
def StridePlacesCardSaid : Prop := Claim7.holds Tryd.pinned (.plain (OpenSpec.ofChange stridePlacesSpec)) stridePlacesCard

/-- THE TIED CARD OF 'linkboylaw09.StrideOnce'. -/
def strideOnceCard : Claim7 := { stood := { row := strideOnceRow, standIns := [], harness := (true, "08ace9ce82c5c845d9d3ff389f4d02cc9e44cc2886d81b2b51cdff30ff21eb93"), looks := true }, kinds := [], alts := [], laidByText := true, laidKinds := [.sentinel, .sentinel, .data], laidTests := true, laidLooks := .later }
def StrideOnceCardSaid : Prop := Claim7.holds Tryd.pinned (.plain (OpenSpec.ofChange strideOnceSpec)) strideOnceCard

/-- THE SECOND FORM's CARD OF 'linkboylaw09.StrideOf'. -/
def strideOfUptoCard : Claim7 := { stood := { row := strideOfUptoRow, standIns := [], harness := (true, "08ace9ce82c5c845d9d3ff389f4d02cc9e44cc2886d81b2b51cdff30ff21eb93"), looks := true }, kinds := [], alts := [], laidByText := true, laidKinds := [.sentinel, .sentinel, .sentinel, .sentinel, .sentinel, .sentinel, .sentinel, .sentinel, .sentinel, .sentinel, .sentinel, .sentinel, .sentinel, .sentinel, .sentinel, .sentinel, .sentinel, .sentinel, .data], laidTests := true, laidLooks := .later }
def StrideOfUptoCardSaid : Prop := Claim7.holds Tryd.pinned (.plain (OpenSpec.upto strideOfSpec)) strideOfUptoCard

/-- THE SECOND FORM's CARD OF 'linkboylaw09.StridePlaces'. -/
def stridePlacesUptoCard : Claim7 := { stood := { row := stridePlacesUptoRow, standIns := [], harness := (true, "08ace9ce82c5c845d9d3ff389f4d02cc9e44cc2886d81b2b51cdff30ff21eb93"), looks := true }, kinds := [], alts := [], laidByText := true, laidKinds := [.sentinel, .sentinel], laidTests := true, laidLooks := .later }
def StridePlacesUptoCardSaid : Prop := Claim7.holds Tryd.pinned (.plain (OpenSpec.upto stridePlacesSpec)) stridePlacesUptoCard

/-- THE SECOND FORM's CARD OF 'linkboylaw09.StrideOnce'. -/
def strideOnceUptoCard : Claim7 := { stood := { row := strideOnceUptoRow, standIns := [], harness := (true, "08ace9ce82c5c845d9d3ff389f4d02cc9e44cc2886d81b2b51cdff30ff21eb93"), looks := true }, kinds := [], alts := [], laidByText := true, laidKinds := [.sentinel, .sentinel, .data], laidTests := true, laidLooks := .later }
def StrideOnceUptoCardSaid : Prop := Claim7.holds Tryd.pinned (.plain (OpenSpec.upto strideOnceSpec)) strideOnceUptoCard
end Rows
end Go.Proofs.YtpijdbajonddlaaDoor
