/-
  The walk of alive of layer 4: the chapter's example.
-/
import Derived.Test.YtnfkgoeocebenaaGreatDoorPparse
namespace Go.Proofs.YtnfkgoeocebenaaGreatDoor
open Go.RowKit

abbrev exP : List Int := [0, 0, 0, 0, 0, 0, 0, 0, 0, 0, 0, 0, 0, 0, 0, 1]
theorem exp_res : pres [91, 58, 58, 49, 93, 58, 56, 48] = some ((true, exP), 80) := by decide +kernel

theorem exp_parse (ue : TypeId) (pe : Value) (w : World) (hE : Env (.iface ue pe) w) : Calls Tryz.prog 36 #[.string ⟨#[91, 58, 58, 49, 93, 58, 56, 48]⟩] w fun e w' => e = .returned (.tuple #[.agg (pnt true exP 80), .nilIface]) ∧ Below w.heap.size w w' := by
  refine (pparse_any ⟨#[91, 58, 58, 49, 93, 58, 56, 48]⟩ (by decide) ue pe w hE).mono ?_
  rintro e w' ⟨h, hb⟩
  have hp : pres (⟨#[91, 58, 58, 49, 93, 58, 56, 48]⟩ : ByteArray).data.toList = some ((true, exP), 80) := exp_res
  rw [hp] at h
  exact ⟨h, hb⟩

set_option maxRecDepth 100000 in
set_option maxHeartbeats 4000000 in
theorem alive4_any (ue : TypeId) (pe : Value) (w : World) (hE : Env (.iface ue pe) w) : Calls Tryz.prog 35 #[] w fun e w' => e = .returned (.bool true) ∧ Below w.heap.size w w' := by
  have HE := Lib.hid (exp_parse ue pe w hE)
  clear hE
  have hq : ∀ w, (binOp .eql 60 (.agg (pnt true exP 80)) (.agg #[.bool true, .int .u8 0, .int .u8 0, .int .u8 0, .int .u8 0, .int .u8 0, .int .u8 0, .int .u8 0, .int .u8 0, .int .u8 0, .int .u8 0, .int .u8 0, .int .u8 0, .int .u8 0, .int .u8 0, .int .u8 0, .int .u8 1, .int .i64 80])).run Tryz.prog w = .ok (.bool true) w := fun w => eql_pnt true true exP exP 80 80 rfl rfl w
  go_enter Tryz.func35, Tryz.ntmps35
  go_wp2_with fail
  refine HE.out.mono ?_
  rintro e w1 ⟨rfl, hb1⟩
  obtain ⟨W2, hW2⟩ : ∃ W, W = w1.alloc (.cells (pnt false z16 0) 60) := ⟨_, rfl⟩
  have hB2 : Blk W2 w1.heap.size 60 (pnt false z16 0) := hW2 ▸ Blk.new w1 _ _
  have hb2 : Below w1.heap.size w1 W2 := hW2 ▸ (Below.refl _ _).alloc (Nat.le_refl _) _
  have HW2 : Hid (w1.alloc (.cells #[.bool false, .int .u8 0, .int .u8 0, .int .u8 0, .int .u8 0, .int .u8 0, .int .u8 0, .int .u8 0, .int .u8 0, .int .u8 0, .int .u8 0, .int .u8 0, .int .u8 0, .int .u8 0, .int .u8 0, .int .u8 0, .int .u8 0, .int .i64 0] 60) = W2) := Lib.hid hW2.symm
  have HB2 := Lib.hid hB2
  obtain ⟨V, hV⟩ : ∃ V, V = W2.setRow w1.heap.size (pnt true exP 80) := ⟨_, rfl⟩
  have HV := Lib.hid hV.symm
  have HBV : Hid (Blk V w1.heap.size 60 (pnt true exP 80)) := Lib.hid (hV ▸ hB2.row _)
  have hbV : Below w1.heap.size w1 V := hV ▸ below_setRow hb2 (Nat.le_refl _) _
  clear hW2 hB2 hV
  go_wp2_with ((try rw [HW2.out]); first | (refine wpl_store 60 _ _ rfl _ (pnt true exP 80) rfl rfl _ _ HB2.out 18 Tryz.infoPoint rfl rfl (pnt_one _ _ _) rfl ?_; rw [HV.out]) | (refine wpl_load 60 _ rfl w1.heap.size rfl _ _ _ HBV.out Tryz.underlying60 rfl 18 Tryz.infoPoint rfl rfl ?_))
  go_ret
  exact ⟨rfl, bel2 hb1 hbV⟩
end Go.Proofs.YtnfkgoeocebenaaGreatDoor
