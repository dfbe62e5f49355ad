/-
  DERIVED. GIVEN WITH THE SEED: THE CARDS: each row of YtnfkgoeocebenaaDoorRows.lean that lists a variable, with what it lists TIED to the program's text (the seventh form; the later family's looks); each row that meets fmt, with fmt's text TOLD by the authors' own Lean function (tested against real Go, not proved from fmt's source: count such statements apart). THE CARD IS WHAT COUNTS. Prove the row's statement (the work); the ties are given (YtnfkgoeocebenaaDoorTie.lean); close each card by the builder's one call (the guide's Derived/Test/ToyasCard.lean, 'card_holds'). Laid BY PROGRAM, IN A SANDBOX (cutbox-door.mjs). By AI agents, Wed Nov 11 2026. No macro, syntax, notation, axiom, sorry.
-/
import Derived.Test.YtnfkgoeocebenaaDoorRows
import GoSem.ClaimSeven
namespace Go.Proofs.YtnfkgoeocebenaaDoor
namespace Rows

/-- THE TIED CARD OF 'linkboylaw04.PortsWords'. -/
def portsWordsCard : Claim7 := { stood := { row := portsWordsRow, standIns := [], harness := (true, "f35fbd8a0dea1fa5bcafe944c8d954e06859926efd52ae7ff2bf989dca4dc5d7"), looks := true }, kinds := [], alts := [], laidByText := true, laidKinds := [.data, .data, .data, .data, .sentinel, .sentinel, .sentinel, .sentinel, .sentinel, .sentinel, .sentinel, .sentinel, .sentinel, .sentinel, .sentinel, .sentinel, .sentinel, .sentinel, .sentinel, .sentinel, .sentinel, .sentinel, .sentinel, .sentinel, .pinned], laidTests := true, laidLooks := .later }
def PortsWordsCardSaid : Prop := Claim7.holds Tryd.pinned (.plain (OpenSpec.ofChange portsWordsSpec)) portsWordsCard

/-- THE SECOND FORM's CARD OF 'linkboylaw04.PortsWords'. -/
def portsWordsUptoCard : Claim7 := { stood := { row := portsWordsUptoRow, standIns := [], harness := (true, "f35fbd8a0dea1fa5bcafe944c8d954e06859926efd52ae7ff2bf989dca4dc5d7"), looks := true }, kinds := [], alts := [], laidByText := true, laidKinds := [.data, .data, .data, .data, .sentinel, .sentinel, .sentinel, .sentinel, .sentinel, .sentinel, .sentinel, .sentinel, .sentinel, .sentinel, .sentinel, .sentinel, .sentinel, .sentinel, .sentinel, .sentinel, .sentinel, .sentinel, .sentinel, .sentinel, .pinned], laidTests := true, laidLooks := .later }
def PortsWordsUptoCardSaid : Prop := Claim7.holds Tryd.pinned (.plain (OpenSpec.upto portsWordsSpec)) portsWordsUptoCard
end Rows
end Go.Proofs.YtnfkgoeocebenaaDoor
