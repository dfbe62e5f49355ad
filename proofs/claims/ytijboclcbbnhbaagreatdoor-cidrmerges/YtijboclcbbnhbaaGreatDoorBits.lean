/-
  The walks of addr.size and addr.Bits.
-/
import Derived.Test.YtijboclcbbnhbaaGreatDoorFew
namespace Go.Proofs.YtijboclcbbnhbaaGreatDoor
open Go.RowKit
set_option maxHeartbeats 400000 in
theorem size_any (six : Bool) (b : List Int) (w : World) : Calls Tryz.prog 67 #[.agg (adr six b)] w fun e w' => e = .returned (.int .i64 (if six then 16 else 4)) ∧ Below w.heap.size w w' := by
  have h0 := adr_zero six b
  cases six
  all_goals
    go_enter Tryz.func67, Tryz.ntmps67
    go_wp2
    go_ret
    exact ⟨rfl, (Below.refl _ _).alloc (Nat.le_refl _) _⟩

set_option maxHeartbeats 400000 in
theorem bits_any (six : Bool) (b : List Int) (hl : b.length = 16) (w : World) : Calls Tryz.prog 48 #[.agg (adr six b)] w fun e w' => e = .returned (.int .i64 (if six then 128 else 32)) ∧ Below w.heap.size w w' := by
  have hB := Blk.new w 25 (adr six b)
  have HL := Lib.hid hl
  have HB := Lib.hid hB
  clear hl hB
  go_enter Tryz.func48, Tryz.ntmps48
  go_wp2_with (refine wpl_load 25 _ rfl _ rfl _ _ _ HB.out Tryz.underlying25 rfl 17 Tryz.infoAddr (by rw [adr_size, HL.out]) rfl ?_)
  refine (size_any six b _).mono ?_
  rintro e w1 ⟨rfl, hb1⟩
  cases six
  all_goals
    go_wp2
    go_ret
    exact ⟨rfl, ((Below.refl _ _).alloc (Nat.le_refl _) _).trans (hb1.mono (by simp))⟩
end Go.Proofs.YtijboclcbbnhbaaGreatDoor
