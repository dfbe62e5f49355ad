/-
  The law MaglevMoves, in parts.
-/
import Derived.Test.YtgpbmbefdgbblaaDoorLlmo
import Derived.Test.YtgpbmbefdgbblaaDoorLlmp
import Derived.Test.YtgpbmbefdgbblaaDoorLlmq
import Derived.Test.YtgpbmbefdgbblaaDoorLlmr
import Derived.Test.YtgpbmbefdgbblaaDoorLlms

namespace Go.Proofs.YtgpbmbefdgbblaaDoor
open Go.RowKit Go.Lib

theorem lmoves_any (E : Nat → TypeId × Value) (ax ay : Option Addr) (cx cy : Nat) (xs ys : List PS) (hcx : xs.length ≤ cx) (hcy : ys.length ≤ cy) (m : Int) (w : World) (hE : MEnv E w) (hX : Elems encP 18 w.heap.size w ax xs) (hY : Elems encP 18 w.heap.size w ay ys) :
    Calls Tryd.prog 4 #[.slice ax xs.length cx, .slice ay ys.length cy, .int .i64 m] w fun e w' => e = .returned (.bool true) ∧ Below w.heap.size w w' := by
  by_cases h : xs.length ≤ 40
  · by_cases h' : ys.length ≤ 40
    · by_cases f1 : fillE xs m = 0 <;> by_cases f2 : fillE ys m = 0
      · exact moves_oo E ax ay cx cy xs ys hcx hcy m h h' f1 f2 w hE hX hY
      · exact moves_oe E ax ay cx cy xs ys hcx hcy m h h' f1 f2 w hE hX hY
      · exact moves_eo E ax ay cx cy xs ys hcx hcy m h h' f1 f2 w hE hX hY
      · exact moves_ee E ax ay cx cy xs ys hcx hcy m h h' f1 f2 w hE hX hY
    · exact moves_long2 E ax ay cx cy xs ys hcx hcy m h (by omega) w hE hX hY
  · exact moves_long1 E ax ay cx cy xs ys hcx hcy m (by omega) w hE hX hY
end Go.Proofs.YtgpbmbefdgbblaaDoor
