/-
  NARROWER THAN 'FOR EVERY INPUT', by the rows' own cells (each row's printed sentence says how): NamesSorts: laid · SumsPseudo: laid.
  DERIVED. THE GIVEN ROWS OF THIS SEAT. 2 by the template 'for every input the law returns true; each argument reads behind the call as it read before'; 0 by the template 'total and deterministic' (their statements: YtnlhdeffoalhiaaDoorTotals.lean).
  GIVEN WITH THE SEED: the statements are not yours to turn. If you find one false, say at which input.
  Laid BY PROGRAM, IN A SANDBOX (cutbox-rows.mjs): the forced cells as the released guide's own fill.sh prints them over the translation 406b183aa31b7531… (all of the seat's roots in one cut). By AI agents, Wed Nov 11 2026. No macro, syntax, notation, axiom, sorry.
-/
import Derived.Test.YtnlhdeffoalhiaaDoorChecked
import GoSem.Claim
import GoSem.ClaimJoined
import GoSem.ClaimMapViews
import Derived.JoinedTies
import Derived.KernelRfl
namespace Go.Proofs.YtnlhdeffoalhiaaDoor
/- THE CELL 'sum', in the pinned program and in every row, IS THE sha256 OF THE DUMP (.gsa) THAT YtnlhdeffoalhiaaDoorProg.lean LOADS. Nothing in Lean hashes anything: it is a label: what it is worth is what the hold of that sum in a sandbox is worth. -/
noncomputable def Tryd.pinned : Pinned := { name := "ytnlhdeffoalhiaadoor", sum := "406b183aa31b7531b32c27c71072bd43b9b597dd37b0af52f216a689f292a1df", checked := Tryd.checked }
namespace Rows
def none {H : Type} : Left H := { results := [], args := [] }

/- WHAT THE LISTED PACKAGE-LEVEL VARIABLES READ AS WHEN THE CALL BEGINS. Each datum BY PROGRAM (the guide's laid-datum.mjs) off the statement by which the dump's own 'gosem.cut.vars' lays the variable. In a bare row this is a premise. The card (YtnlhdeffoalhiaaDoorCards.lean) ties it to the program's text. -/
def laid_linkboy_api_ErrName {H : Type} : DataW H := .iface "*errors.errorString" (.ptr (.agg [.lit (.string [105, 116, 32, 105, 115, 32, 110, 111, 32, 114, 105, 103, 104, 116, 32, 110, 97, 109, 101])]))
def laid_linkboy_api_ErrRange {H : Type} : DataW H := .iface "*errors.errorString" (.ptr (.agg [.lit (.string [97, 32, 110, 117, 109, 98, 101, 114, 32, 105, 115, 32, 111, 117, 116, 32, 111, 102, 32, 105, 116, 115, 32, 114, 97, 110, 103, 101])]))

/-- 'linkboylaw05.NamesSorts': WHATEVER THE INPUT: true; the input reads as it did. -/
def namesSortsSpec : ChangeSpec := { name := "namesSorts", fn := fun _ => fun
  | [d] => { results := [.lit (.bool true)], args := [d] }
  | _ => none }
def namesSortsRow : OpenClaim := { program := "ytnlhdeffoalhiaadoor", sum := "406b183aa31b7531b32c27c71072bd43b9b597dd37b0af52f216a689f292a1df", func := "linkboy/linkboylaw05.NamesSorts", spec := "namesSorts", inPlace := ["internal/bytealg.IndexByteString", "internal/bytealg.IndexString"], unfollowed := true, recurses := true, named := ["linkboy/api.ErrName", "internal/bytealg.MaxLen"], apart := false, laid := [("linkboy/api.ErrName", laid_linkboy_api_ErrName)] }
def NamesSortsSaid : Prop := namesSortsRow.holds Tryd.pinned (OpenSpec.ofChange namesSortsSpec)

/-- ITS FALSE NEIGHBOUR: 'it returns false'. Refute it at one input. -/
def namesSortsWrong : ChangeSpec := { name := "namesSorts", fn := fun _ => fun
  | [d] => { results := [.lit (.bool false)], args := [d] }
  | _ => none }
def NamesSortsWrongFalsely : Prop := namesSortsRow.holds Tryd.pinned (OpenSpec.ofChange namesSortsWrong)

/-- 'linkboylaw06.SumsPseudo': WHATEVER THE INPUT: true; the input reads as it did. -/
def sumsPseudoSpec : ChangeSpec := { name := "sumsPseudo", fn := fun _ => fun
  | [d1, d2, d3] => { results := [.lit (.bool true)], args := [d1, d2, d3] }
  | _ => none }
def sumsPseudoRow : OpenClaim := { program := "ytnlhdeffoalhiaadoor", sum := "406b183aa31b7531b32c27c71072bd43b9b597dd37b0af52f216a689f292a1df", func := "linkboy/linkboylaw06.SumsPseudo", spec := "sumsPseudo", unfollowed := true, recurses := true, named := ["linkboy/api.ErrRange"], apart := false, laid := [("linkboy/api.ErrRange", laid_linkboy_api_ErrRange)] }
def SumsPseudoSaid : Prop := sumsPseudoRow.holds Tryd.pinned (OpenSpec.ofChange sumsPseudoSpec)

/-- ITS FALSE NEIGHBOUR: 'it returns false'. Refute it at one input. -/
def sumsPseudoWrong : ChangeSpec := { name := "sumsPseudo", fn := fun _ => fun
  | [d1, d2, d3] => { results := [.lit (.bool false)], args := [d1, d2, d3] }
  | _ => none }
def SumsPseudoWrongFalsely : Prop := sumsPseudoRow.holds Tryd.pinned (OpenSpec.ofChange sumsPseudoWrong)

/- THE SECOND FORM. 'bulk': how many values and letters a reading holds, each counted each time it is reached (what is shared counts as often as it is met; a slice's spare places count too). A statement '..UptoSaid' is the law's where the arguments, and the package variables that the reading takes, are together of bulk at most 1048576: NARROWER than '..Said'. Prove '..Said' where nothing that the law and all that it calls make is longer than what came in: it says more and counts as full. Else prove '..UptoSaid'. A law counts once. -/
mutual
def uptoBulk {H : Type} : DataW H → Nat
  | .lit (.string bytes) => bytes.length + 1
  | .lit _ => 1
  | .nil => 1
  | .ptr d => uptoBulk d + 1
  | .slice elems spare => uptoBulkAll elems + uptoBulkAll spare + 1
  | .agg parts => uptoBulkAll parts + 1
  | .iface _ d => uptoBulk d + 1
  | .map entries => uptoBulkEntries entries + 1
  | .held _ => 1
def uptoBulkAll {H : Type} : List (DataW H) → Nat
  | [] => 0
  | d :: r => uptoBulk d + uptoBulkAll r
def uptoBulkEntries {H : Type} : List (Lit × DataW H) → Nat
  | [] => 0
  | x :: r => uptoBulkEntry x + uptoBulkEntries r
def uptoBulkEntry {H : Type} : Lit × DataW H → Nat
  | (.string bytes, d) => bytes.length + uptoBulk d + 1
  | (_, d) => uptoBulk d + 1
 end
def uptoSmall : (H : Type) → List (DataW H) → Bool := fun _ ds => decide (uptoBulkAll ds ≤ 1048576)
def OpenSpec.upto (s : _root_.Go.ChangeSpec) : _root_.Go.OpenSpec := { _root_.Go.OpenSpec.ofChange s with cond := some uptoSmall }

/-- 'linkboylaw05.NamesSorts', WHERE WHAT IT READS IS OF BULK AT MOST 1048576: true; the input reads as it did. -/
def namesSortsUptoRow : OpenClaim := { program := "ytnlhdeffoalhiaadoor", sum := "406b183aa31b7531b32c27c71072bd43b9b597dd37b0af52f216a689f292a1df", func := "linkboy/linkboylaw05.NamesSorts", spec := "namesSorts", inPlace := ["internal/bytealg.IndexByteString", "internal/bytealg.IndexString"], unfollowed := true, recurses := true, named := ["linkboy/api.ErrName", "internal/bytealg.MaxLen"], apart := false, laid := [("linkboy/api.ErrName", laid_linkboy_api_ErrName)], narrowed := true }
def NamesSortsUptoSaid : Prop := namesSortsUptoRow.holds Tryd.pinned (OpenSpec.upto namesSortsSpec)

/-- 'linkboylaw06.SumsPseudo', WHERE WHAT IT READS IS OF BULK AT MOST 1048576: true; the input reads as it did. -/
def sumsPseudoUptoRow : OpenClaim := { program := "ytnlhdeffoalhiaadoor", sum := "406b183aa31b7531b32c27c71072bd43b9b597dd37b0af52f216a689f292a1df", func := "linkboy/linkboylaw06.SumsPseudo", spec := "sumsPseudo", unfollowed := true, recurses := true, named := ["linkboy/api.ErrRange"], apart := false, laid := [("linkboy/api.ErrRange", laid_linkboy_api_ErrRange)], narrowed := true }
def SumsPseudoUptoSaid : Prop := sumsPseudoUptoRow.holds Tryd.pinned (OpenSpec.upto sumsPseudoSpec)

end Rows
end Go.Proofs.YtnlhdeffoalhiaaDoor
