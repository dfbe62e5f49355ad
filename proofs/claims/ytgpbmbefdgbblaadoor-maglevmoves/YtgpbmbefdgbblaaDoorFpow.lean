/-
  prime.Power, and the law PrimePowers but for the example.
-/
import Derived.Test.YtgpbmbefdgbblaaDoorFref
namespace Go.Proofs.YtgpbmbefdgbblaaDoor
open Go.RowKit Go.Lib


/-- What prime.Power tells. -/
def powerOf (a k p : Int) : Int := if p < 1 ∨ 2147483648 < p ∨ k < 0 then 0 else pwr a k.toNat p


end Go.Proofs.YtgpbmbefdgbblaaDoor
