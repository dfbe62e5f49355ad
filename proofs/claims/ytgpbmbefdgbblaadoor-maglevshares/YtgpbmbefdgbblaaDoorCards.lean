/-
  DERIVED. GIVEN WITH THE SEED: THE CARDS: each row of YtgpbmbefdgbblaaDoorRows.lean that lists a variable, with what it lists TIED to the program's text (the seventh form; the later family's looks); each row that meets fmt, with fmt's text TOLD by the authors' own Lean function (tested against real Go, not proved from fmt's source: count such statements apart). THE CARD IS WHAT COUNTS. Prove the row's statement (the work); the ties are given (YtgpbmbefdgbblaaDoorTie.lean); close each card by the builder's one call (the guide's Derived/Test/ToyasCard.lean, 'card_holds'). Laid BY PROGRAM, IN A SANDBOX (cutbox-door.mjs). By AI agents, Wed Nov 11 2026. No macro, syntax, notation, axiom, sorry.
-/
import Derived.Test.YtgpbmbefdgbblaaDoorRows
import GoSem.ClaimSeven
namespace Go.Proofs.YtgpbmbefdgbblaaDoor
namespace Rows

/-- THE TIED CARD OF 'linkboylaw10.MaglevShares'. -/
def maglevSharesCard : Claim7 := { stood := { row := maglevSharesRow, standIns := [], harness := (true, "bb38759fbe7f6a4658f2baa440f98dccc62931d6ff56b1ff152c4e4537bbb896"), looks := false }, kinds := [], alts := [], laidByText := true, laidKinds := [.sentinel, .sentinel, .sentinel, .sentinel, .data], laidTests := true, laidLooks := .later }
def MaglevSharesCardSaid : Prop := Claim7.holds Tryd.pinned (.plain (OpenSpec.ofChange maglevSharesSpec)) maglevSharesCard

/-- THE TIED CARD OF 'linkboylaw10.MaglevMoves'. -/
def maglevMovesCard : Claim7 := { stood := { row := maglevMovesRow, standIns := [], harness := (true, "bb38759fbe7f6a4658f2baa440f98dccc62931d6ff56b1ff152c4e4537bbb896"), looks := false }, kinds := [], alts := [], laidByText := true, laidKinds := [.sentinel, .sentinel, .sentinel, .sentinel, .data], laidTests := true, laidLooks := .later }
def MaglevMovesCardSaid : Prop := Claim7.holds Tryd.pinned (.plain (OpenSpec.ofChange maglevMovesSpec)) maglevMovesCard

/-- THE SECOND FORM's CARD OF 'linkboylaw10.MaglevShares'. -/
def maglevSharesUptoCard : Claim7 := { stood := { row := maglevSharesUptoRow, standIns := [], harness := (true, "bb38759fbe7f6a4658f2baa440f98dccc62931d6ff56b1ff152c4e4537bbb896"), looks := false }, kinds := [], alts := [], laidByText := true, laidKinds := [.sentinel, .sentinel, .sentinel, .sentinel, .data], laidTests := true, laidLooks := .later }
def MaglevSharesUptoCardSaid : Prop := Claim7.holds Tryd.pinned (.plain (OpenSpec.upto maglevSharesSpec)) maglevSharesUptoCard

/-- THE SECOND FORM's CARD OF 'linkboylaw10.MaglevMoves'. -/
def maglevMovesUptoCard : Claim7 := { stood := { row := maglevMovesUptoRow, standIns := [], harness := (true, "bb38759fbe7f6a4658f2baa440f98dccc62931d6ff56b1ff152c4e4537bbb896"), looks := false }, kinds := [], alts := [], laidByText := true, laidKinds := [.sentinel, .sentinel, .sentinel, .sentinel, .data], laidTests := true, laidLooks := .later }
def MaglevMovesUptoCardSaid : Prop := Claim7.holds Tryd.pinned (.plain (OpenSpec.upto maglevMovesSpec)) maglevMovesUptoCard
end Rows
end Go.Proofs.YtgpbmbefdgbblaaDoor
