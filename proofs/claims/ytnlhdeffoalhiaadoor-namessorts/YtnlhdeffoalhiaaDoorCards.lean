/-
  DERIVED. GIVEN WITH THE SEED: THE CARDS: each row of YtnlhdeffoalhiaaDoorRows.lean that lists a variable, with what it lists TIED to the program's text (the seventh form; the later family's looks); each row that meets fmt, with fmt's text TOLD by the authors' own Lean function (tested against real Go, not proved from fmt's source: count such statements apart). THE CARD IS WHAT COUNTS. Prove the row's statement (the work); the ties are given (YtnlhdeffoalhiaaDoorTie.lean); close each card by the builder's one call (the guide's Derived/Test/ToyasCard.lean, 'card_holds'). Laid BY PROGRAM, IN A SANDBOX (cutbox-door.mjs). By AI agents, Wed Nov 11 2026. No macro, syntax, notation, axiom, sorry.
-/
import Derived.Test.YtnlhdeffoalhiaaDoorRows
import GoSem.ClaimSeven
namespace Go.Proofs.YtnlhdeffoalhiaaDoor
namespace Rows

/-- THE TIED CARD OF 'linkboylaw05.NamesSorts'. -/
def namesSortsCard : Claim7 := { stood := { row := namesSortsRow, standIns := [], harness := (true, "41ce4841e4a6bfae8716d7ac5f1143d6f5a9c1c86682652b01ae4c64b51db63c"), looks := false }, kinds := [], alts := [], laidByText := true, laidKinds := [.sentinel], laidTests := true, laidLooks := .later }
def NamesSortsCardSaid : Prop := Claim7.holds Tryd.pinned (.plain (OpenSpec.ofChange namesSortsSpec)) namesSortsCard

/-- THE TIED CARD OF 'linkboylaw06.SumsPseudo'. -/
def sumsPseudoCard : Claim7 := { stood := { row := sumsPseudoRow, standIns := [], harness := (true, "41ce4841e4a6bfae8716d7ac5f1143d6f5a9c1c86682652b01ae4c64b51db63c"), looks := false }, kinds := [], alts := [], laidByText := true, laidKinds := [.sentinel], laidTests := true, laidLooks := .later }
def SumsPseudoCardSaid : Prop := Claim7.holds Tryd.pinned (.plain (OpenSpec.ofChange sumsPseudoSpec)) sumsPseudoCard

/-- THE SECOND FORM's CARD OF 'linkboylaw05.NamesSorts'. -/
def namesSortsUptoCard : Claim7 := { stood := { row := namesSortsUptoRow, standIns := [], harness := (true, "41ce4841e4a6bfae8716d7ac5f1143d6f5a9c1c86682652b01ae4c64b51db63c"), looks := false }, kinds := [], alts := [], laidByText := true, laidKinds := [.sentinel], laidTests := true, laidLooks := .later }
def NamesSortsUptoCardSaid : Prop := Claim7.holds Tryd.pinned (.plain (OpenSpec.upto namesSortsSpec)) namesSortsUptoCard

/-- THE SECOND FORM's CARD OF 'linkboylaw06.SumsPseudo'. -/
def sumsPseudoUptoCard : Claim7 := { stood := { row := sumsPseudoUptoRow, standIns := [], harness := (true, "41ce4841e4a6bfae8716d7ac5f1143d6f5a9c1c86682652b01ae4c64b51db63c"), looks := false }, kinds := [], alts := [], laidByText := true, laidKinds := [.sentinel], laidTests := true, laidLooks := .later }
def SumsPseudoUptoCardSaid : Prop := Claim7.holds Tryd.pinned (.plain (OpenSpec.upto sumsPseudoSpec)) sumsPseudoUptoCard
end Rows
end Go.Proofs.YtnlhdeffoalhiaaDoor
