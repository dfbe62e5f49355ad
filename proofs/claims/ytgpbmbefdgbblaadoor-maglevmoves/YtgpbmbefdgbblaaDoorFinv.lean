/-
  prime.Inverse.
-/
import Derived.Test.YtgpbmbefdgbblaaDoorFpow
namespace Go.Proofs.YtgpbmbefdgbblaaDoor
open Go.RowKit Go.Lib

/-- What prime.Inverse tells. -/
def inverseOf (a p : Int) (e1 e2 : Value) : Value := if isP p then (if a % p = 0 then .tuple #[.int .i64 0, e2] else .tuple #[.int .i64 (pwr a (p.toNat - 2) p), .nilIface]) else .tuple #[.int .i64 0, e1]

end Go.Proofs.YtgpbmbefdgbblaaDoor
