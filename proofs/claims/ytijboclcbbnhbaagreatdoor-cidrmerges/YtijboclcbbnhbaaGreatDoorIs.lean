/-
  errors.Is by its contracts, for two errors of errors.New's make; linkboynum.Num of what octets answers.
-/
import Derived.Test.YtijboclcbbnhbaaGreatDoorEnv
import Derived.LaidEql
import Derived.Stop.Asserts
import Derived.RowKitTokens
namespace Go.Proofs.YtijboclcbbnhbaaGreatDoor
open Go.RowKit Go.Extern.Stop Go.Stop Go.Extern

end Go.Proofs.YtijboclcbbnhbaaGreatDoor
