/-
  The law SumsChange at every input.
-/
import Derived.Test.YtnlhdeffoalhiaaSchk
namespace Go.Proofs.Ytnlhdeffoalhiaa
open Go.RowKit Go.Lib

set_option maxHeartbeats 2000000 in
theorem lchange_any (c x y : Int) (w : World) : Calls Try.prog 4 #[.int .i64 c, .int .i64 x, .int .i64 y] w fun e w' => e = .returned (.bool true) ∧ Below w.heap.size w w' := by
  have HA := hid alive_any
  have H1 := hid (schange_any c x y)
  have H2 := hid (rchange_any c x y)
  have H3 := hid (ssame_any c x)
  have H4 := hid (rsame_any c x)
  generalize change c x y = k at H1 H2
  generalize same c x = s at H3 H4
  go_enter Try.func4, Try.ntmps4
  go_wp2_with fail
  refine (HA.out _).mono ?_
  rintro e w1 ⟨rfl, hb⟩
  have Hb := hid hb
  clear hb
  go_wp2_with fail
  refine (H1.out _).mono ?_
  rintro e w2 ⟨rfl, h⟩
  subst h
  go_wp2_with fail
  refine (H2.out _).mono ?_
  rintro e w2 ⟨rfl, h⟩
  subst h
  go_wp2_with fail
  refine (H3.out _).mono ?_
  rintro e w2 ⟨rfl, h⟩
  subst h
  go_wp2_with fail
  refine (H4.out _).mono ?_
  rintro e w2 ⟨rfl, h⟩
  subst h
  go_wp2
  go_ret
  exact ⟨ret_b rfl (by simp), Hb.out⟩
end Go.Proofs.Ytnlhdeffoalhiaa
