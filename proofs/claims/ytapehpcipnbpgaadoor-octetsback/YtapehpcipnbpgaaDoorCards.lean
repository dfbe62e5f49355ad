/-
  DERIVED. GIVEN WITH THE SEED: THE CARDS: each row of YtapehpcipnbpgaaDoorRows.lean that lists a variable, with what it lists TIED to the program's text (the seventh form; the later family's looks); each row that meets fmt, with fmt's text TOLD by the authors' own Lean function (tested against real Go, not proved from fmt's source: count such statements apart). THE CARD IS WHAT COUNTS. Prove the row's statement (the work); the ties are given (YtapehpcipnbpgaaDoorTie.lean); close each card by the builder's one call (the guide's Derived/Test/ToyasCard.lean, 'card_holds'). Laid BY PROGRAM, IN A SANDBOX (cutbox-door.mjs). By AI agents, Wed Nov 11 2026. No macro, syntax, notation, axiom, sorry.
-/
import Derived.Test.YtapehpcipnbpgaaDoorRows
import GoSem.ClaimSeven
namespace Go.Proofs.YtapehpcipnbpgaaDoor
namespace Rows

/-- THE TIED CARD OF 'linkboylaw01.OctetsWrites'. -/
def octetsWritesCard : Claim7 := { stood := { row := octetsWritesRow, standIns := [], harness := (true, "1ae596ab8ee974e0112d34339ca8700c33b01a626e084fcd889b5baa473c5b50"), looks := true }, kinds := [], alts := [], laidByText := true, laidKinds := [.sentinel, .sentinel, .sentinel, .sentinel, .sentinel, .sentinel, .sentinel, .sentinel, .sentinel, .sentinel, .sentinel, .sentinel, .sentinel, .sentinel, .sentinel, .sentinel, .sentinel, .sentinel], laidTests := true, laidLooks := .later }
def OctetsWritesCardSaid : Prop := Claim7.holds Tryd.pinned (.plain (OpenSpec.ofChange octetsWritesSpec)) octetsWritesCard

/-- THE TIED CARD OF 'linkboylaw01.OctetsBack'. -/
def octetsBackCard : Claim7 := { stood := { row := octetsBackRow, standIns := [], harness := (true, "1ae596ab8ee974e0112d34339ca8700c33b01a626e084fcd889b5baa473c5b50"), looks := true }, kinds := [], alts := [], laidByText := true, laidKinds := [.sentinel, .sentinel, .sentinel, .sentinel], laidTests := true, laidLooks := .later }
def OctetsBackCardSaid : Prop := Claim7.holds Tryd.pinned (.plain (OpenSpec.ofChange octetsBackSpec)) octetsBackCard

/-- THE SECOND FORM's CARD OF 'linkboylaw01.OctetsWrites'. -/
def octetsWritesUptoCard : Claim7 := { stood := { row := octetsWritesUptoRow, standIns := [], harness := (true, "1ae596ab8ee974e0112d34339ca8700c33b01a626e084fcd889b5baa473c5b50"), looks := true }, kinds := [], alts := [], laidByText := true, laidKinds := [.sentinel, .sentinel, .sentinel, .sentinel, .sentinel, .sentinel, .sentinel, .sentinel, .sentinel, .sentinel, .sentinel, .sentinel, .sentinel, .sentinel, .sentinel, .sentinel, .sentinel, .sentinel], laidTests := true, laidLooks := .later }
def OctetsWritesUptoCardSaid : Prop := Claim7.holds Tryd.pinned (.plain (OpenSpec.upto octetsWritesSpec)) octetsWritesUptoCard

/-- THE SECOND FORM's CARD OF 'linkboylaw01.OctetsBack'. -/
def octetsBackUptoCard : Claim7 := { stood := { row := octetsBackUptoRow, standIns := [], harness := (true, "1ae596ab8ee974e0112d34339ca8700c33b01a626e084fcd889b5baa473c5b50"), looks := true }, kinds := [], alts := [], laidByText := true, laidKinds := [.sentinel, .sentinel, .sentinel, .sentinel], laidTests := true, laidLooks := .later }
def OctetsBackUptoCardSaid : Prop := Claim7.holds Tryd.pinned (.plain (OpenSpec.upto octetsBackSpec)) octetsBackUptoCard
end Rows
end Go.Proofs.YtapehpcipnbpgaaDoor
