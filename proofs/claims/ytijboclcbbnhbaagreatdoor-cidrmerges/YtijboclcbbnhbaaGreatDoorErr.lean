/-
  linkboynum.Num: the number of each of package api's errors.
-/
import Derived.Test.YtijboclcbbnhbaaGreatDoorIs
namespace Go.Proofs.YtijboclcbbnhbaaGreatDoor
open Go.RowKit

end Go.Proofs.YtijboclcbbnhbaaGreatDoor
