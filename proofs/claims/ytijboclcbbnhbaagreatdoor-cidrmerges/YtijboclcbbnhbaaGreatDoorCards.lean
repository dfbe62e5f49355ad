/-
  DERIVED. GIVEN WITH THE SEED: THE CARDS: each row of YtijboclcbbnhbaaGreatDoorRows.lean that lists a variable, with what it lists TIED to the program's text (the seventh form; the later family's looks); each row that meets fmt, with fmt's text TOLD by the authors' own Lean function (tested against real Go, not proved from fmt's source: count such statements apart). THE CARD IS WHAT COUNTS. Prove the row's statement (the work); the ties are given (YtijboclcbbnhbaaGreatDoorTie.lean); close each card by the builder's one call (the guide's Derived/Test/ToyasCard.lean, 'card_holds'). Laid BY PROGRAM, IN A SANDBOX (cutbox-door.mjs). By AI agents, Wed Nov 11 2026. No macro, syntax, notation, axiom, sorry.
-/
import Derived.Test.YtijboclcbbnhbaaGreatDoorRows
import GoSem.ClaimSeven
namespace Go.Proofs.YtijboclcbbnhbaaGreatDoor
namespace Rows

/-- THE TIED CARD OF 'linkboylaw03.CidrMerges'. -/
def cidrMergesCard : Claim7 := { stood := { row := cidrMergesRow, standIns := [], harness := (true, "ee757d736b2b32c83be39af06519e9b3ab045a018e9e833fc86588c30be55b62"), looks := true }, kinds := [], alts := [], laidByText := true, laidKinds := [.data, .data, .data, .data, .sentinel, .sentinel, .sentinel, .sentinel, .sentinel, .pinned], laidTests := true, laidLooks := .later }
def CidrMergesCardSaid : Prop := Claim7.holds Tryz.pinned (.plain (OpenSpec.ofChange cidrMergesSpec)) cidrMergesCard

/-- THE SECOND FORM's CARD OF 'linkboylaw03.CidrMerges'. -/
def cidrMergesUptoCard : Claim7 := { stood := { row := cidrMergesUptoRow, standIns := [], harness := (true, "ee757d736b2b32c83be39af06519e9b3ab045a018e9e833fc86588c30be55b62"), looks := true }, kinds := [], alts := [], laidByText := true, laidKinds := [.data, .data, .data, .data, .sentinel, .sentinel, .sentinel, .sentinel, .sentinel, .pinned], laidTests := true, laidLooks := .later }
def CidrMergesUptoCardSaid : Prop := Claim7.holds Tryz.pinned (.plain (OpenSpec.upto cidrMergesSpec)) cidrMergesUptoCard
end Rows
end Go.Proofs.YtijboclcbbnhbaaGreatDoor
