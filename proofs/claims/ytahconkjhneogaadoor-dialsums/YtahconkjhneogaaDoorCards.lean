/-
  DERIVED. GIVEN WITH THE SEED: THE CARDS: each row of YtahconkjhneogaaDoorRows.lean that lists a variable, with what it lists TIED to the program's text (the seventh form; the later family's looks); each row that meets fmt, with fmt's text TOLD by the authors' own Lean function (tested against real Go, not proved from fmt's source: count such statements apart). THE CARD IS WHAT COUNTS. Prove the row's statement (the work); the ties are given (YtahconkjhneogaaDoorTie.lean); close each card by the builder's one call (the guide's Derived/Test/ToyasCard.lean, 'card_holds'). Laid BY PROGRAM, IN A SANDBOX (cutbox-door.mjs). By AI agents, Wed Nov 11 2026. No macro, syntax, notation, axiom, sorry.
-/
import Derived.Test.YtahconkjhneogaaDoorRows
import GoSem.ClaimSeven
namespace Go.Proofs.YtahconkjhneogaaDoor
namespace Rows

/-- THE TIED CARD OF 'linkboylaw11.DialSums'. -/
def dialSumsCard : Claim7 := { stood := { row := dialSumsRow, standIns := [], harness := (true, "e7c8f931083f13f28254c2b989d64e2ba37d5cce1503224f04737b0727931f47"), looks := false }, kinds := [], alts := [], laidByText := true, laidKinds := [.data, .data, .data], laidTests := true, laidLooks := .later }
def DialSumsCardSaid : Prop := Claim7.holds Tryd.pinned (.plain (OpenSpec.ofChange dialSumsSpec)) dialSumsCard

/-- THE TIED CARD OF 'linkboylaw11.DialTogether'. -/
def dialTogetherCard : Claim7 := { stood := { row := dialTogetherRow, standIns := [], harness := (true, "e7c8f931083f13f28254c2b989d64e2ba37d5cce1503224f04737b0727931f47"), looks := false }, kinds := [], alts := [], laidByText := true, laidKinds := [.data, .data, .data], laidTests := true, laidLooks := .later }
def DialTogetherCardSaid : Prop := Claim7.holds Tryd.pinned (.plain (OpenSpec.ofChange dialTogetherSpec)) dialTogetherCard

/-- THE SECOND FORM's CARD OF 'linkboylaw11.DialSums'. -/
def dialSumsUptoCard : Claim7 := { stood := { row := dialSumsUptoRow, standIns := [], harness := (true, "e7c8f931083f13f28254c2b989d64e2ba37d5cce1503224f04737b0727931f47"), looks := false }, kinds := [], alts := [], laidByText := true, laidKinds := [.data, .data, .data], laidTests := true, laidLooks := .later }
def DialSumsUptoCardSaid : Prop := Claim7.holds Tryd.pinned (.plain (OpenSpec.upto dialSumsSpec)) dialSumsUptoCard

/-- THE SECOND FORM's CARD OF 'linkboylaw11.DialTogether'. -/
def dialTogetherUptoCard : Claim7 := { stood := { row := dialTogetherUptoRow, standIns := [], harness := (true, "e7c8f931083f13f28254c2b989d64e2ba37d5cce1503224f04737b0727931f47"), looks := false }, kinds := [], alts := [], laidByText := true, laidKinds := [.data, .data, .data], laidTests := true, laidLooks := .later }
def DialTogetherUptoCardSaid : Prop := Claim7.holds Tryd.pinned (.plain (OpenSpec.upto dialTogetherSpec)) dialTogetherUptoCard
end Rows
end Go.Proofs.YtahconkjhneogaaDoor
