/-
  NARROWER THAN 'FOR EVERY INPUT', by the rows' own cells (each row's printed sentence says how): HashBytes: laid · HashMixes: laid · HashUnlike: laid.
  DERIVED. THE GIVEN ROWS OF THIS SEAT. 3 by the template 'for every input the law returns true; each argument reads behind the call as it read before'; 0 by the template 'total and deterministic' (their statements: YtijboclcbbnhbaaDoorTotals.lean).
  GIVEN WITH THE SEED: the statements are not yours to turn. If you find one false, say at which input.
  Laid BY PROGRAM, IN A SANDBOX (cutbox-rows.mjs): the forced cells as the released guide's own fill.sh prints them over the translation 760203b94d4b79e5… (all of the seat's roots in one cut). By AI agents, Wed Nov 11 2026. No macro, syntax, notation, axiom, sorry.
-/
import Derived.Test.YtijboclcbbnhbaaDoorChecked
import GoSem.Claim
import GoSem.ClaimJoined
import GoSem.ClaimMapViews
import Derived.JoinedTies
import Derived.KernelRfl
namespace Go.Proofs.YtijboclcbbnhbaaDoor
/- THE CELL 'sum', in the pinned program and in every row, IS THE sha256 OF THE DUMP (.gsa) THAT YtijboclcbbnhbaaDoorProg.lean LOADS. Nothing in Lean hashes anything: it is a label: what it is worth is what the hold of that sum in a sandbox is worth. -/
noncomputable def Tryd.pinned : Pinned := { name := "ytijboclcbbnhbaadoor", sum := "760203b94d4b79e5d45a222b9cfc85366ec3a9cc74b50d703738ca40e9cce884", checked := Tryd.checked }
namespace Rows
def none {H : Type} : Left H := { results := [], args := [] }

/- WHAT THE LISTED PACKAGE-LEVEL VARIABLES READ AS WHEN THE CALL BEGINS. Each datum BY PROGRAM (the guide's laid-datum.mjs) off the statement by which the dump's own 'gosem.cut.vars' lays the variable. In a bare row this is a premise. The card (YtijboclcbbnhbaaDoorCards.lean) ties it to the program's text. -/
def laid_linkboy_hash_factors {H : Type} : DataW H := .agg [.lit (.int .u64 18397679294719823053), .lit (.int .u64 14181476777654086739)]
def laid_linkboy_hash_inverses {H : Type} : DataW H := .agg [.lit (.int .u64 5725274745694666757), .lit (.int .u64 11291846944257947611)]

/-- 'linkboylaw07.HashBytes': WHATEVER THE INPUT: true; the input reads as it did. -/
def hashBytesSpec : ChangeSpec := { name := "hashBytes", fn := fun _ => fun
  | [d1, d2, d3] => { results := [.lit (.bool true)], args := [d1, d2, d3] }
  | _ => none }
def hashBytesRow : OpenClaim := { program := "ytijboclcbbnhbaadoor", sum := "760203b94d4b79e5d45a222b9cfc85366ec3a9cc74b50d703738ca40e9cce884", func := "linkboy/linkboylaw07.HashBytes", spec := "hashBytes", named := ["linkboy/hash.factors"], apart := false, laid := [("linkboy/hash.factors", laid_linkboy_hash_factors)] }
def HashBytesSaid : Prop := hashBytesRow.holds Tryd.pinned (OpenSpec.ofChange hashBytesSpec)

/-- ITS FALSE NEIGHBOUR: 'it returns false'. Refute it at one input. -/
def hashBytesWrong : ChangeSpec := { name := "hashBytes", fn := fun _ => fun
  | [d1, d2, d3] => { results := [.lit (.bool false)], args := [d1, d2, d3] }
  | _ => none }
def HashBytesWrongFalsely : Prop := hashBytesRow.holds Tryd.pinned (OpenSpec.ofChange hashBytesWrong)

/-- 'linkboylaw07.HashMixes': WHATEVER THE INPUT: true; the input reads as it did. -/
def hashMixesSpec : ChangeSpec := { name := "hashMixes", fn := fun _ => fun
  | [d] => { results := [.lit (.bool true)], args := [d] }
  | _ => none }
def hashMixesRow : OpenClaim := { program := "ytijboclcbbnhbaadoor", sum := "760203b94d4b79e5d45a222b9cfc85366ec3a9cc74b50d703738ca40e9cce884", func := "linkboy/linkboylaw07.HashMixes", spec := "hashMixes", named := ["linkboy/hash.factors", "linkboy/hash.inverses"], apart := false, laid := [("linkboy/hash.factors", laid_linkboy_hash_factors), ("linkboy/hash.inverses", laid_linkboy_hash_inverses)] }
def HashMixesSaid : Prop := hashMixesRow.holds Tryd.pinned (OpenSpec.ofChange hashMixesSpec)

/-- ITS FALSE NEIGHBOUR: 'it returns false'. Refute it at one input. -/
def hashMixesWrong : ChangeSpec := { name := "hashMixes", fn := fun _ => fun
  | [d] => { results := [.lit (.bool false)], args := [d] }
  | _ => none }
def HashMixesWrongFalsely : Prop := hashMixesRow.holds Tryd.pinned (OpenSpec.ofChange hashMixesWrong)

/-- 'linkboylaw07.HashUnlike': WHATEVER THE INPUT: true; the input reads as it did. -/
def hashUnlikeSpec : ChangeSpec := { name := "hashUnlike", fn := fun _ => fun
  | [d1, d2] => { results := [.lit (.bool true)], args := [d1, d2] }
  | _ => none }
def hashUnlikeRow : OpenClaim := { program := "ytijboclcbbnhbaadoor", sum := "760203b94d4b79e5d45a222b9cfc85366ec3a9cc74b50d703738ca40e9cce884", func := "linkboy/linkboylaw07.HashUnlike", spec := "hashUnlike", named := ["linkboy/hash.factors"], apart := false, laid := [("linkboy/hash.factors", laid_linkboy_hash_factors)] }
def HashUnlikeSaid : Prop := hashUnlikeRow.holds Tryd.pinned (OpenSpec.ofChange hashUnlikeSpec)

/-- ITS FALSE NEIGHBOUR: 'it returns false'. Refute it at one input. -/
def hashUnlikeWrong : ChangeSpec := { name := "hashUnlike", fn := fun _ => fun
  | [d1, d2] => { results := [.lit (.bool false)], args := [d1, d2] }
  | _ => none }
def HashUnlikeWrongFalsely : Prop := hashUnlikeRow.holds Tryd.pinned (OpenSpec.ofChange hashUnlikeWrong)

/- THE SECOND FORM. 'bulk': how many values and letters a reading holds, each counted each time it is reached (what is shared counts as often as it is met; a slice's spare places count too). A statement '..UptoSaid' is the law's where the arguments, and the package variables that the reading takes, are together of bulk at most 1048576: NARROWER than '..Said'. Prove '..Said' where nothing that the law and all that it calls make is longer than what came in: it says more and counts as full. Else prove '..UptoSaid'. A law counts once. -/
mutual
def uptoBulk {H : Type} : DataW H → Nat
  | .lit (.string bytes) => bytes.length + 1
  | .lit _ => 1
  | .nil => 1
  | .ptr d => uptoBulk d + 1
  | .slice elems spare => uptoBulkAll elems + uptoBulkAll spare + 1
  | .agg parts => uptoBulkAll parts + 1
  | .iface _ d => uptoBulk d + 1
  | .map entries => uptoBulkEntries entries + 1
  | .held _ => 1
def uptoBulkAll {H : Type} : List (DataW H) → Nat
  | [] => 0
  | d :: r => uptoBulk d + uptoBulkAll r
def uptoBulkEntries {H : Type} : List (Lit × DataW H) → Nat
  | [] => 0
  | x :: r => uptoBulkEntry x + uptoBulkEntries r
def uptoBulkEntry {H : Type} : Lit × DataW H → Nat
  | (.string bytes, d) => bytes.length + uptoBulk d + 1
  | (_, d) => uptoBulk d + 1
 end
def uptoSmall : (H : Type) → List (DataW H) → Bool := fun _ ds => decide (uptoBulkAll ds ≤ 1048576)
def OpenSpec.upto (s : _root_.Go.ChangeSpec) : _root_.Go.OpenSpec := { _root_.Go.OpenSpec.ofChange s with cond := some uptoSmall }

/-- 'linkboylaw07.HashBytes', WHERE WHAT IT READS IS OF BULK AT MOST 1048576: true; the input reads as it did. -/
def hashBytesUptoRow : OpenClaim := { program := "ytijboclcbbnhbaadoor", sum := "760203b94d4b79e5d45a222b9cfc85366ec3a9cc74b50d703738ca40e9cce884", func := "linkboy/linkboylaw07.HashBytes", spec := "hashBytes", named := ["linkboy/hash.factors"], apart := false, laid := [("linkboy/hash.factors", laid_linkboy_hash_factors)], narrowed := true }
def HashBytesUptoSaid : Prop := hashBytesUptoRow.holds Tryd.pinned (OpenSpec.upto hashBytesSpec)

/-- 'linkboylaw07.HashMixes', WHERE WHAT IT READS IS OF BULK AT MOST 1048576: true; the input reads as it did. -/
def hashMixesUptoRow : OpenClaim := { program := "ytijboclcbbnhbaadoor", sum := "760203b94d4b79e5d45a222b9cfc85366ec3a9cc74b50d703738ca40e9cce884", func := "linkboy/linkboylaw07.HashMixes", spec := "hashMixes", named := ["linkboy/hash.factors", "linkboy/hash.inverses"], apart := false, laid := [("linkboy/hash.factors", laid_linkboy_hash_factors), ("linkboy/hash.inverses", laid_linkboy_hash_inverses)], narrowed := true }
def HashMixesUptoSaid : Prop := hashMixesUptoRow.holds Tryd.pinned (OpenSpec.upto hashMixesSpec)

/-- 'linkboylaw07.HashUnlike', WHERE WHAT IT READS IS OF BULK AT MOST 1048576: true; the input reads as it did. -/
def hashUnlikeUptoRow : OpenClaim := { program := "ytijboclcbbnhbaadoor", sum := "760203b94d4b79e5d45a222b9cfc85366ec3a9cc74b50d703738ca40e9cce884", func := "linkboy/linkboylaw07.HashUnlike", spec := "hashUnlike", named := ["linkboy/hash.factors"], apart := false, laid := [("linkboy/hash.factors", laid_linkboy_hash_factors)], narrowed := true }
def HashUnlikeUptoSaid : Prop := hashUnlikeUptoRow.holds Tryd.pinned (OpenSpec.upto hashUnlikeSpec)

end Rows
end Go.Proofs.YtijboclcbbnhbaaDoor
