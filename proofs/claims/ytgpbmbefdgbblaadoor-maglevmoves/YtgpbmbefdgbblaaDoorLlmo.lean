/-
  The law MaglevMoves, in parts.
-/
import Derived.Test.YtgpbmbefdgbblaaDoorLlmn
namespace Go.Proofs.YtgpbmbefdgbblaaDoor
open Go.RowKit Go.Lib

set_option linter.unusedSimpArgs false in
set_option linter.unusedVariables false in
set_option maxRecDepth 100000 in
set_option maxHeartbeats 8000000 in
theorem moves_long1 (E : Nat → TypeId × Value) (ax ay : Option Addr) (cx cy : Nat) (xs ys : List PS) (hcx : xs.length ≤ cx) (hcy : ys.length ≤ cy) (m : Int) (h : 40 < xs.length) (w : World) (hE : MEnv E w) (hX : Elems encP 18 w.heap.size w ax xs) (hY : Elems encP 18 w.heap.size w ay ys) :
    Calls Tryd.prog 4 #[.slice ax xs.length cx, .slice ay ys.length cy, .int .i64 m] w fun e w' => e = .returned (.bool true) ∧ Below w.heap.size w w' := by
  have HA := hid (malive_any E w hE)
  go_enter Tryd.func4, Tryd.ntmps4
  go_wp2_with fail
  refine HA.out.mono ?_
  rintro e w1 ⟨rfl, hb⟩
  have Hb1 := hid hb
  clear hb
  go_wp2
  go_ret
  exact ⟨rfl, Hb1.out⟩

set_option linter.unusedSimpArgs false in
set_option linter.unusedVariables false in
set_option maxRecDepth 100000 in
set_option maxHeartbeats 8000000 in
theorem moves_long2 (E : Nat → TypeId × Value) (ax ay : Option Addr) (cx cy : Nat) (xs ys : List PS) (hcx : xs.length ≤ cx) (hcy : ys.length ≤ cy) (m : Int) (h : xs.length ≤ 40) (h' : 40 < ys.length) (w : World) (hE : MEnv E w) (hX : Elems encP 18 w.heap.size w ax xs) (hY : Elems encP 18 w.heap.size w ay ys) :
    Calls Tryd.prog 4 #[.slice ax xs.length cx, .slice ay ys.length cy, .int .i64 m] w fun e w' => e = .returned (.bool true) ∧ Below w.heap.size w w' := by
  have HA := hid (malive_any E w hE)
  go_enter Tryd.func4, Tryd.ntmps4
  go_wp2_with fail
  refine HA.out.mono ?_
  rintro e w1 ⟨rfl, hb⟩
  have Hb1 := hid hb
  clear hb
  go_wp2
  go_ret
  exact ⟨rfl, Hb1.out⟩

end Go.Proofs.YtgpbmbefdgbblaaDoor
