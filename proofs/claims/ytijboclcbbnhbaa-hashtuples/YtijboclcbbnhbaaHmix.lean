/-
  hash.Plain, Mix, Unmix; the document's Mix; the chapter's example.
-/
import Derived.Test.YtijboclcbbnhbaaHfew
namespace Go.Proofs.Ytijboclcbbnhbaa
open Go.RowKit Go.Lib

set_option maxHeartbeats 1000000 in
theorem plain_any (ad : Option Addr) (cap : Nat) (bs : List Int) (hby : Byt bs) (hm : bs.length ≤ 1000000) (w : World) (hI : Bys w.heap.size w ad bs) :
    Calls Try.prog 7 #[.slice ad bs.length cap] w fun e w' => e = .returned (.int .u64 (uv (furB first64 bs))) ∧ w = w' := by
  have HF := hid (further_any first64 ad cap bs hby hm w hI)
  rw [uv_first] at HF
  generalize uv (furB first64 bs) = y at *
  clear hI hby hm
  go_enter Try.func7, Try.ntmps7
  go_wp2_with fail
  refine HF.out.mono ?_
  rintro e w1 ⟨rfl, rfl⟩
  go_wp2
  go_ret
  exact ⟨rfl, rfl⟩

set_option maxHeartbeats 1000000 in
theorem halive_any (w : World) : Calls Try.prog 4 #[] w fun e w' => e = .returned (.bool true) ∧ w = w' := by
  have HF := hid (plain_any none 0 [] (Byt.of (fun x hx => absurd hx (by simp))) (by simp) w (fun j hj => absurd hj (by simp)))
  rw [show furB first64 [] = first64 from rfl, uv_first] at HF
  go_enter Try.func4, Try.ntmps4
  go_wp2_with fail
  refine HF.out.mono ?_
  rintro e w1 ⟨rfl, rfl⟩
  go_wp2
  go_ret
  exact ⟨rfl, rfl⟩


end Go.Proofs.Ytijboclcbbnhbaa
