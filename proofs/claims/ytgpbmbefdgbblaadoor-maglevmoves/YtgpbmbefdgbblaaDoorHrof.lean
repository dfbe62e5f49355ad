/-
  The document's Of.
-/
import Derived.Test.YtgpbmbefdgbblaaDoorHof
namespace Go.Proofs.YtgpbmbefdgbblaaDoor
open Go.RowKit Go.Lib

end Go.Proofs.YtgpbmbefdgbblaaDoor
