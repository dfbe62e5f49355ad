/-
  The closure of cidr.Any.
-/
import Derived.Test.YtijboclcbbnhbaaGreatDoorMgrow
namespace Go.Proofs.YtijboclcbbnhbaaGreatDoor
open Go.RowKit

set_option maxHeartbeats 1000000 in
theorem any1_any (cs sa : Bool) (C A : List Nat) (hlc : C.length = 16) (hla : A.length = 16) (hA : ∀ x ∈ A, x < 256) (n : Int) (u u' : TypeId) (p p' : Value) (w : World) (hE : Env3 (.iface u p) (.iface u' p') w)
    (g : Nat) (hg : Blk w g 25 (adr sa (ints A))) :
    Calls Tryz.prog 25 #[.agg (cid cs (ints C) n), .pointer (some ⟨g, 0, none⟩)] w fun e w' => e = .returned (.bool (contC cs C n sa A)) ∧ Below w.heap.size w w' := by
  obtain ⟨W0, hW0⟩ : ∃ W, W = w.alloc (.cells (cid cs (ints C) n) 29) := ⟨_, rfl⟩
  have hB0 : Blk W0 w.heap.size 29 (cid cs (ints C) n) := hW0 ▸ Blk.new w _ _
  have hb0 : Below w.heap.size w W0 := hW0 ▸ (Below.refl _ _).alloc (Nat.le_refl _) _
  have HW0 := Lib.hid hW0.symm
  have HBc := Lib.hid hB0
  have HBa := Lib.hid (hg.kept hb0)
  have Hb0 := Lib.hid hb0
  have L18 : Hid (18 = (cid cs (ints C) n).size) := Lib.hid (by rw [cid_size, ints_length, hlc])
  have L17 : Hid (17 = (adr sa (ints A)).size) := Lib.hid (by simp [adr, ints_length, hla])
  have CQ := Lib.hid (cont_any cs sa C A hlc hla hA n u u' p p' W0 (hE.kept hb0))
  clear hW0 hB0 hb0 hlc hla hA hE hg
  generalize contC cs C n sa A = R at *
  go_enter Tryz.func25, Tryz.ntmps25
  go_upto_region 1 with fail
  rw [HW0.out]
  go_wp2_with (first | (refine wpl_load 29 _ rfl w.heap.size rfl _ _ _ HBc.out Tryz.underlying29 rfl 18 Tryz.infoCidr L18.out rfl ?_) | (refine wpl_load 25 _ rfl g rfl _ _ _ HBa.out Tryz.underlying25 rfl 17 Tryz.infoAddr L17.out rfl ?_))
  refine CQ.out.mono ?_
  rintro e w1 ⟨rfl, hb1⟩
  go_wp2
  go_ret
  exact ⟨rfl, bel2 Hb0.out hb1⟩
end Go.Proofs.YtijboclcbbnhbaaGreatDoor
