/-
  DERIVED. GIVEN WITH THE SEED: THE CARDS: each row of YtambnnahgbegfaaGreatDoorRows.lean that lists a variable, with what it lists TIED to the program's text (the seventh form; the later family's looks); each row that meets fmt, with fmt's text TOLD by the authors' own Lean function (tested against real Go, not proved from fmt's source: count such statements apart). THE CARD IS WHAT COUNTS. Prove the row's statement (the work); the ties are given (YtambnnahgbegfaaGreatDoorTie.lean); close each card by the builder's one call (the guide's Derived/Test/ToyasCard.lean, 'card_holds'). Laid BY PROGRAM, IN A SANDBOX (cutbox-door.mjs). By AI agents, Wed Nov 11 2026. No macro, syntax, notation, axiom, sorry.
-/
import Derived.Test.YtambnnahgbegfaaGreatDoorRows
import GoSem.ClaimSeven
namespace Go.Proofs.YtambnnahgbegfaaGreatDoor
namespace Rows

/-- THE TIED CARD OF 'linkboylaw02.AddrBytes'. -/
def addrBytesCard : Claim7 := { stood := { row := addrBytesRow, standIns := [], harness := (true, "d4572b722558c2c5f0972256c949bbf1b33ef242592612fcd27196b86c6de444"), looks := true }, kinds := [], alts := [], laidByText := true, laidKinds := [.data, .data, .data, .data, .sentinel, .sentinel, .sentinel, .sentinel, .sentinel, .sentinel, .sentinel, .sentinel, .sentinel, .sentinel, .sentinel, .sentinel, .sentinel, .sentinel, .sentinel, .sentinel, .sentinel, .sentinel, .sentinel, .sentinel, .pinned], laidTests := true, laidLooks := .later }
def AddrBytesCardSaid : Prop := Claim7.holds Tryz.pinned (.plain (OpenSpec.ofChange addrBytesSpec)) addrBytesCard

/-- THE TIED CARD OF 'linkboylaw03.CidrParses'. -/
def cidrParsesCard : Claim7 := { stood := { row := cidrParsesRow, standIns := [], harness := (true, "d4572b722558c2c5f0972256c949bbf1b33ef242592612fcd27196b86c6de444"), looks := true }, kinds := [], alts := [], laidByText := true, laidKinds := [.data, .data, .data, .data, .sentinel, .sentinel, .sentinel, .sentinel, .sentinel, .sentinel, .sentinel, .sentinel, .sentinel, .sentinel, .sentinel, .sentinel, .sentinel, .sentinel, .sentinel, .sentinel, .sentinel, .sentinel, .sentinel, .sentinel, .pinned], laidTests := true, laidLooks := .later }
def CidrParsesCardSaid : Prop := Claim7.holds Tryz.pinned (.plain (OpenSpec.ofChange cidrParsesSpec)) cidrParsesCard

/-- THE TIED CARD OF 'linkboylaw03.CidrContains'. -/
def cidrContainsCard : Claim7 := { stood := { row := cidrContainsRow, standIns := [], harness := (true, "d4572b722558c2c5f0972256c949bbf1b33ef242592612fcd27196b86c6de444"), looks := true }, kinds := [], alts := [], laidByText := true, laidKinds := [.data, .data, .data, .data, .sentinel, .sentinel, .sentinel, .sentinel, .sentinel, .sentinel, .sentinel, .sentinel, .sentinel, .sentinel, .sentinel, .sentinel, .sentinel, .sentinel, .sentinel, .sentinel, .sentinel, .sentinel, .sentinel, .sentinel, .pinned], laidTests := true, laidLooks := .later }
def CidrContainsCardSaid : Prop := Claim7.holds Tryz.pinned (.plain (OpenSpec.ofChange cidrContainsSpec)) cidrContainsCard

/-- THE TIED CARD OF 'linkboylaw03.CidrMerges'. -/
def cidrMergesCard : Claim7 := { stood := { row := cidrMergesRow, standIns := [], harness := (true, "d4572b722558c2c5f0972256c949bbf1b33ef242592612fcd27196b86c6de444"), looks := true }, kinds := [], alts := [], laidByText := true, laidKinds := [.data, .data, .data, .data, .sentinel, .sentinel, .sentinel, .sentinel, .sentinel, .pinned], laidTests := true, laidLooks := .later }
def CidrMergesCardSaid : Prop := Claim7.holds Tryz.pinned (.plain (OpenSpec.ofChange cidrMergesSpec)) cidrMergesCard

/-- THE TIED CARD OF 'linkboylaw03.CidrReads'. -/
def cidrReadsCard : Claim7 := { stood := { row := cidrReadsRow, standIns := [], harness := (true, "d4572b722558c2c5f0972256c949bbf1b33ef242592612fcd27196b86c6de444"), looks := true }, kinds := [], alts := [], laidByText := true, laidKinds := [.data, .data, .data, .data, .sentinel, .sentinel, .sentinel, .sentinel, .sentinel, .sentinel, .sentinel, .sentinel, .sentinel, .sentinel, .sentinel, .sentinel, .sentinel, .sentinel, .sentinel, .sentinel, .sentinel, .sentinel, .sentinel, .sentinel, .pinned], laidTests := true, laidLooks := .later }
def CidrReadsCardSaid : Prop := Claim7.holds Tryz.pinned (.plain (OpenSpec.ofChange cidrReadsSpec)) cidrReadsCard

/-- THE SECOND FORM's CARD OF 'linkboylaw02.AddrBytes'. -/
def addrBytesUptoCard : Claim7 := { stood := { row := addrBytesUptoRow, standIns := [], harness := (true, "d4572b722558c2c5f0972256c949bbf1b33ef242592612fcd27196b86c6de444"), looks := true }, kinds := [], alts := [], laidByText := true, laidKinds := [.data, .data, .data, .data, .sentinel, .sentinel, .sentinel, .sentinel, .sentinel, .sentinel, .sentinel, .sentinel, .sentinel, .sentinel, .sentinel, .sentinel, .sentinel, .sentinel, .sentinel, .sentinel, .sentinel, .sentinel, .sentinel, .sentinel, .pinned], laidTests := true, laidLooks := .later }
def AddrBytesUptoCardSaid : Prop := Claim7.holds Tryz.pinned (.plain (OpenSpec.upto addrBytesSpec)) addrBytesUptoCard

/-- THE SECOND FORM's CARD OF 'linkboylaw03.CidrParses'. -/
def cidrParsesUptoCard : Claim7 := { stood := { row := cidrParsesUptoRow, standIns := [], harness := (true, "d4572b722558c2c5f0972256c949bbf1b33ef242592612fcd27196b86c6de444"), looks := true }, kinds := [], alts := [], laidByText := true, laidKinds := [.data, .data, .data, .data, .sentinel, .sentinel, .sentinel, .sentinel, .sentinel, .sentinel, .sentinel, .sentinel, .sentinel, .sentinel, .sentinel, .sentinel, .sentinel, .sentinel, .sentinel, .sentinel, .sentinel, .sentinel, .sentinel, .sentinel, .pinned], laidTests := true, laidLooks := .later }
def CidrParsesUptoCardSaid : Prop := Claim7.holds Tryz.pinned (.plain (OpenSpec.upto cidrParsesSpec)) cidrParsesUptoCard

/-- THE SECOND FORM's CARD OF 'linkboylaw03.CidrContains'. -/
def cidrContainsUptoCard : Claim7 := { stood := { row := cidrContainsUptoRow, standIns := [], harness := (true, "d4572b722558c2c5f0972256c949bbf1b33ef242592612fcd27196b86c6de444"), looks := true }, kinds := [], alts := [], laidByText := true, laidKinds := [.data, .data, .data, .data, .sentinel, .sentinel, .sentinel, .sentinel, .sentinel, .sentinel, .sentinel, .sentinel, .sentinel, .sentinel, .sentinel, .sentinel, .sentinel, .sentinel, .sentinel, .sentinel, .sentinel, .sentinel, .sentinel, .sentinel, .pinned], laidTests := true, laidLooks := .later }
def CidrContainsUptoCardSaid : Prop := Claim7.holds Tryz.pinned (.plain (OpenSpec.upto cidrContainsSpec)) cidrContainsUptoCard

/-- THE SECOND FORM's CARD OF 'linkboylaw03.CidrMerges'. -/
def cidrMergesUptoCard : Claim7 := { stood := { row := cidrMergesUptoRow, standIns := [], harness := (true, "d4572b722558c2c5f0972256c949bbf1b33ef242592612fcd27196b86c6de444"), looks := true }, kinds := [], alts := [], laidByText := true, laidKinds := [.data, .data, .data, .data, .sentinel, .sentinel, .sentinel, .sentinel, .sentinel, .pinned], laidTests := true, laidLooks := .later }
def CidrMergesUptoCardSaid : Prop := Claim7.holds Tryz.pinned (.plain (OpenSpec.upto cidrMergesSpec)) cidrMergesUptoCard

/-- THE SECOND FORM's CARD OF 'linkboylaw03.CidrReads'. -/
def cidrReadsUptoCard : Claim7 := { stood := { row := cidrReadsUptoRow, standIns := [], harness := (true, "d4572b722558c2c5f0972256c949bbf1b33ef242592612fcd27196b86c6de444"), looks := true }, kinds := [], alts := [], laidByText := true, laidKinds := [.data, .data, .data, .data, .sentinel, .sentinel, .sentinel, .sentinel, .sentinel, .sentinel, .sentinel, .sentinel, .sentinel, .sentinel, .sentinel, .sentinel, .sentinel, .sentinel, .sentinel, .sentinel, .sentinel, .sentinel, .sentinel, .sentinel, .pinned], laidTests := true, laidLooks := .later }
def CidrReadsUptoCardSaid : Prop := Claim7.holds Tryz.pinned (.plain (OpenSpec.upto cidrReadsSpec)) cidrReadsUptoCard
end Rows
end Go.Proofs.YtambnnahgbegfaaGreatDoor
