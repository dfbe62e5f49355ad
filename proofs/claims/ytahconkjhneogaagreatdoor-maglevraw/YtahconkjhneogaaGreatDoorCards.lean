/-
  DERIVED. GIVEN WITH THE SEED: THE CARDS: each row of YtahconkjhneogaaGreatDoorRows.lean that lists a variable, with what it lists TIED to the program's text (the seventh form; the later family's looks); each row that meets fmt, with fmt's text TOLD by the authors' own Lean function (tested against real Go, not proved from fmt's source: count such statements apart). THE CARD IS WHAT COUNTS. Prove the row's statement (the work); the ties are given (YtahconkjhneogaaGreatDoorTie.lean); close each card by the builder's one call (the guide's Derived/Test/ToyasCard.lean, 'card_holds'). Laid BY PROGRAM, IN A SANDBOX (cutbox-door.mjs). By AI agents, Wed Nov 11 2026. No macro, syntax, notation, axiom, sorry.
-/
import Derived.Test.YtahconkjhneogaaGreatDoorRows
import GoSem.ClaimSeven
namespace Go.Proofs.YtahconkjhneogaaGreatDoor
namespace Rows

/-- THE TIED CARD OF 'linkboylaw10.MaglevFills'. -/
def maglevFillsCard : Claim7 := { stood := { row := maglevFillsRow, standIns := [], harness := (true, "be6765f044645ec8c4731320ac0014690e7920141f1e3ff6075a0cd4fdcf9817"), looks := true }, kinds := [], alts := [], laidByText := true, laidKinds := [.sentinel, .sentinel, .sentinel, .sentinel, .sentinel, .sentinel, .sentinel, .sentinel, .sentinel, .sentinel, .sentinel, .sentinel, .sentinel, .sentinel, .sentinel, .sentinel, .sentinel, .sentinel, .data], laidTests := true, laidLooks := .later }
def MaglevFillsCardSaid : Prop := Claim7.holds Tryz.pinned (.plain (OpenSpec.ofChange maglevFillsSpec)) maglevFillsCard

/-- THE TIED CARD OF 'linkboylaw10.MaglevRaw'. -/
def maglevRawCard : Claim7 := { stood := { row := maglevRawRow, standIns := [], harness := (true, "be6765f044645ec8c4731320ac0014690e7920141f1e3ff6075a0cd4fdcf9817"), looks := true }, kinds := [], alts := [], laidByText := true, laidKinds := [.sentinel, .sentinel, .sentinel, .sentinel, .data], laidTests := true, laidLooks := .later }
def MaglevRawCardSaid : Prop := Claim7.holds Tryz.pinned (.plain (OpenSpec.ofChange maglevRawSpec)) maglevRawCard

/-- THE SECOND FORM's CARD OF 'linkboylaw10.MaglevFills'. -/
def maglevFillsUptoCard : Claim7 := { stood := { row := maglevFillsUptoRow, standIns := [], harness := (true, "be6765f044645ec8c4731320ac0014690e7920141f1e3ff6075a0cd4fdcf9817"), looks := true }, kinds := [], alts := [], laidByText := true, laidKinds := [.sentinel, .sentinel, .sentinel, .sentinel, .sentinel, .sentinel, .sentinel, .sentinel, .sentinel, .sentinel, .sentinel, .sentinel, .sentinel, .sentinel, .sentinel, .sentinel, .sentinel, .sentinel, .data], laidTests := true, laidLooks := .later }
def MaglevFillsUptoCardSaid : Prop := Claim7.holds Tryz.pinned (.plain (OpenSpec.upto maglevFillsSpec)) maglevFillsUptoCard

/-- THE SECOND FORM's CARD OF 'linkboylaw10.MaglevRaw'. -/
def maglevRawUptoCard : Claim7 := { stood := { row := maglevRawUptoRow, standIns := [], harness := (true, "be6765f044645ec8c4731320ac0014690e7920141f1e3ff6075a0cd4fdcf9817"), looks := true }, kinds := [], alts := [], laidByText := true, laidKinds := [.sentinel, .sentinel, .sentinel, .sentinel, .data], laidTests := true, laidLooks := .later }
def MaglevRawUptoCardSaid : Prop := Claim7.holds Tryz.pinned (.plain (OpenSpec.upto maglevRawSpec)) maglevRawUptoCard
end Rows
end Go.Proofs.YtahconkjhneogaaGreatDoor
