/-
  DERIVED. GIVEN WITH THE SEED: THE CARDS: each row of YtijboclcbbnhbaaDoorRows.lean that lists a variable, with what it lists TIED to the program's text (the seventh form; the later family's looks); each row that meets fmt, with fmt's text TOLD by the authors' own Lean function (tested against real Go, not proved from fmt's source: count such statements apart). THE CARD IS WHAT COUNTS. Prove the row's statement (the work); the ties are given (YtijboclcbbnhbaaDoorTie.lean); close each card by the builder's one call (the guide's Derived/Test/ToyasCard.lean, 'card_holds'). Laid BY PROGRAM, IN A SANDBOX (cutbox-door.mjs). By AI agents, Wed Nov 11 2026. No macro, syntax, notation, axiom, sorry.
-/
import Derived.Test.YtijboclcbbnhbaaDoorRows
import GoSem.ClaimSeven
namespace Go.Proofs.YtijboclcbbnhbaaDoor
namespace Rows

/-- THE TIED CARD OF 'linkboylaw07.HashBytes'. -/
def hashBytesCard : Claim7 := { stood := { row := hashBytesRow, standIns := [], harness := (true, "f968ad5b748e8addd444def2f2371484eed9b71bee3666be579ac2ac22721b91"), looks := false }, kinds := [], alts := [], laidByText := true, laidKinds := [.data], laidTests := true, laidLooks := .later }
def HashBytesCardSaid : Prop := Claim7.holds Tryd.pinned (.plain (OpenSpec.ofChange hashBytesSpec)) hashBytesCard

/-- THE TIED CARD OF 'linkboylaw07.HashMixes'. -/
def hashMixesCard : Claim7 := { stood := { row := hashMixesRow, standIns := [], harness := (true, "f968ad5b748e8addd444def2f2371484eed9b71bee3666be579ac2ac22721b91"), looks := false }, kinds := [], alts := [], laidByText := true, laidKinds := [.data, .data], laidTests := true, laidLooks := .later }
def HashMixesCardSaid : Prop := Claim7.holds Tryd.pinned (.plain (OpenSpec.ofChange hashMixesSpec)) hashMixesCard

/-- THE TIED CARD OF 'linkboylaw07.HashUnlike'. -/
def hashUnlikeCard : Claim7 := { stood := { row := hashUnlikeRow, standIns := [], harness := (true, "f968ad5b748e8addd444def2f2371484eed9b71bee3666be579ac2ac22721b91"), looks := false }, kinds := [], alts := [], laidByText := true, laidKinds := [.data], laidTests := true, laidLooks := .later }
def HashUnlikeCardSaid : Prop := Claim7.holds Tryd.pinned (.plain (OpenSpec.ofChange hashUnlikeSpec)) hashUnlikeCard

/-- THE SECOND FORM's CARD OF 'linkboylaw07.HashBytes'. -/
def hashBytesUptoCard : Claim7 := { stood := { row := hashBytesUptoRow, standIns := [], harness := (true, "f968ad5b748e8addd444def2f2371484eed9b71bee3666be579ac2ac22721b91"), looks := false }, kinds := [], alts := [], laidByText := true, laidKinds := [.data], laidTests := true, laidLooks := .later }
def HashBytesUptoCardSaid : Prop := Claim7.holds Tryd.pinned (.plain (OpenSpec.upto hashBytesSpec)) hashBytesUptoCard

/-- THE SECOND FORM's CARD OF 'linkboylaw07.HashMixes'. -/
def hashMixesUptoCard : Claim7 := { stood := { row := hashMixesUptoRow, standIns := [], harness := (true, "f968ad5b748e8addd444def2f2371484eed9b71bee3666be579ac2ac22721b91"), looks := false }, kinds := [], alts := [], laidByText := true, laidKinds := [.data, .data], laidTests := true, laidLooks := .later }
def HashMixesUptoCardSaid : Prop := Claim7.holds Tryd.pinned (.plain (OpenSpec.upto hashMixesSpec)) hashMixesUptoCard

/-- THE SECOND FORM's CARD OF 'linkboylaw07.HashUnlike'. -/
def hashUnlikeUptoCard : Claim7 := { stood := { row := hashUnlikeUptoRow, standIns := [], harness := (true, "f968ad5b748e8addd444def2f2371484eed9b71bee3666be579ac2ac22721b91"), looks := false }, kinds := [], alts := [], laidByText := true, laidKinds := [.data], laidTests := true, laidLooks := .later }
def HashUnlikeUptoCardSaid : Prop := Claim7.holds Tryd.pinned (.plain (OpenSpec.upto hashUnlikeSpec)) hashUnlikeUptoCard
end Rows
end Go.Proofs.YtijboclcbbnhbaaDoor
