/-
  ports.parseAddr: the address ahead of a port.
-/
import Derived.Test.YtnfkgoeocebenaaGreatDoorPpure
import Derived.Test.YtnfkgoeocebenaaGreatDoorPbase
namespace Go.Proofs.YtnfkgoeocebenaaGreatDoor
open Go.RowKit

set_option maxRecDepth 100000 in
set_option maxHeartbeats 4000000 in
theorem pa_f_none (s : ByteArray) (ab : List Int) (hl : ab.length = 16) (ue : TypeId) (pe : Value) (E : Value) (w : World) (hE : Env E w)
    (cP : ∀ w, Calls Tryz.prog 107 #[.string s, .string ⟨#[91]⟩] w fun e w' => e = .returned (.bool false) ∧ w' = w)
    (cA : ∀ w, Env E w → Calls Tryz.prog 46 #[.string s] w fun e w' => e = .returned (.tuple #[.agg (adr false ab), .iface ue pe]) ∧ Below w.heap.size w w') :
    Calls Tryz.prog 74 #[.string s] w fun e w' => e = .returned (.tuple #[.agg (adr false z16), .bool false]) ∧ Below w.heap.size w w' := by
  obtain ⟨W0, hW0⟩ : ∃ W, W = w.alloc (.cells (adr false z16) 24) := ⟨_, rfl⟩
  have hBW0 : Blk W0 w.heap.size 24 (adr false z16) := hW0 ▸ Blk.new w _ _
  have hbW0 : Below w.heap.size w W0 := hW0 ▸ (Below.refl _ _).alloc (Nat.le_refl _) _
  have HW0 : Hid (w.alloc (.cells #[.bool false, .int .u8 0, .int .u8 0, .int .u8 0, .int .u8 0, .int .u8 0, .int .u8 0, .int .u8 0, .int .u8 0, .int .u8 0, .int .u8 0, .int .u8 0, .int .u8 0, .int .u8 0, .int .u8 0, .int .u8 0, .int .u8 0] 24) = W0) := Lib.hid hW0.symm
  have HB0 := Lib.hid hBW0
  have Hb0 := Lib.hid hbW0
  have HE := Lib.hid hE
  have CP := Lib.hid cP
  have CA := Lib.hid cA
  have L17 : Hid (17 = (adr false ab).size) := Lib.hid (by rw [adr_size, hl])
  clear hW0 hBW0 hbW0 hE cP cA hl
  go_enter Tryz.func74, Tryz.ntmps74
  go_wp2_with fail
  rw [HW0.out]
  refine (CP.out W0).mono ?_
  rintro e w1 ⟨rfl, hw1⟩
  rw [hw1]
  clear hw1
  go_wp2_with fail
  refine (CA.out W0 (HE.out.kept Hb0.out)).mono ?_
  rintro e w2 ⟨rfl, hb2⟩
  have Hb2 := Lib.hid (bel2 Hb0.out hb2)
  have HB2 := Lib.hid (HB0.out.kept hb2)
  obtain ⟨W3, hW3⟩ : ∃ W, W = w2.alloc (.cells (adr false z16) 24) := ⟨_, rfl⟩
  have hBW3 : Blk W3 w2.heap.size 24 (adr false z16) := hW3 ▸ Blk.new w2 _ _
  have hbW3 : Below w2.heap.size w2 W3 := hW3 ▸ (Below.refl _ _).alloc (Nat.le_refl _) _
  have HW3 : Hid (w2.alloc (.cells #[.bool false, .int .u8 0, .int .u8 0, .int .u8 0, .int .u8 0, .int .u8 0, .int .u8 0, .int .u8 0, .int .u8 0, .int .u8 0, .int .u8 0, .int .u8 0, .int .u8 0, .int .u8 0, .int .u8 0, .int .u8 0, .int .u8 0] 24) = W3) := Lib.hid hW3.symm
  have HB3 := Lib.hid hBW3
  obtain ⟨V, hV⟩ : ∃ V, V = W3.setRow w2.heap.size (adr false ab) := ⟨_, rfl⟩
  have HV := Lib.hid hV.symm
  have hsz : w.heap.size < w2.heap.size := HB2.out.lt
  have HBV : Hid (Blk V w2.heap.size 24 (adr false ab)) := Lib.hid (hV ▸ hBW3.row _)
  have HBR : Hid (Blk V w.heap.size 24 (adr false z16)) := Lib.hid (hV ▸ (HB2.out.kept hbW3).rowOther (by omega) _)
  have HbV : Hid (Below w.heap.size w V) := Lib.hid (hV ▸ below_setRow (bel2 Hb2.out hbW3) (by omega) _)
  have hc0 : V.cell? ⟨w2.heap.size, 0, none⟩ = some (.bool false) := by rw [HBV.out.cell]; rfl
  clear hb2 hW3 hBW3 hbW3 hV
  go_wp2_with ((try rw [HW3.out]); first | (refine wpl_store 24 _ _ rfl w2.heap.size (adr false ab) rfl rfl _ _ HB3.out 17 Tryz.infoAddr L17.out rfl (adr_one _ _) rfl ?_; rw [HV.out]) | (refine wpl_store 24 _ _ rfl w.heap.size (adr false z16) rfl rfl _ _ HBR.out 17 Tryz.infoAddr rfl rfl (adr_one _ _) rfl ?_))
  exact retA2 rfl w.heap.size rfl _ _ _ (HBR.out.row _) Tryz.underlying24 rfl 17 Tryz.infoAddr rfl rfl _ rfl ⟨rfl, below_setRow HbV.out (Nat.le_refl _) _⟩

set_option maxRecDepth 100000 in
set_option maxHeartbeats 4000000 in
theorem pa_f_miss (s : ByteArray) (ab : List Int) (hl : ab.length = 16) (E : Value) (w : World) (hE : Env E w)
    (cP : ∀ w, Calls Tryz.prog 107 #[.string s, .string ⟨#[91]⟩] w fun e w' => e = .returned (.bool false) ∧ w' = w)
    (cA : ∀ w, Env E w → Calls Tryz.prog 46 #[.string s] w fun e w' => e = .returned (.tuple #[.agg (adr true ab), .nilIface]) ∧ Below w.heap.size w w') :
    Calls Tryz.prog 74 #[.string s] w fun e w' => e = .returned (.tuple #[.agg (adr false z16), .bool false]) ∧ Below w.heap.size w w' := by
  obtain ⟨W0, hW0⟩ : ∃ W, W = w.alloc (.cells (adr false z16) 24) := ⟨_, rfl⟩
  have hBW0 : Blk W0 w.heap.size 24 (adr false z16) := hW0 ▸ Blk.new w _ _
  have hbW0 : Below w.heap.size w W0 := hW0 ▸ (Below.refl _ _).alloc (Nat.le_refl _) _
  have HW0 : Hid (w.alloc (.cells #[.bool false, .int .u8 0, .int .u8 0, .int .u8 0, .int .u8 0, .int .u8 0, .int .u8 0, .int .u8 0, .int .u8 0, .int .u8 0, .int .u8 0, .int .u8 0, .int .u8 0, .int .u8 0, .int .u8 0, .int .u8 0, .int .u8 0] 24) = W0) := Lib.hid hW0.symm
  have HB0 := Lib.hid hBW0
  have Hb0 := Lib.hid hbW0
  have HE := Lib.hid hE
  have CP := Lib.hid cP
  have CA := Lib.hid cA
  have L17 : Hid (17 = (adr true ab).size) := Lib.hid (by rw [adr_size, hl])
  clear hW0 hBW0 hbW0 hE cP cA hl
  go_enter Tryz.func74, Tryz.ntmps74
  go_wp2_with fail
  rw [HW0.out]
  refine (CP.out W0).mono ?_
  rintro e w1 ⟨rfl, hw1⟩
  rw [hw1]
  clear hw1
  go_wp2_with fail
  refine (CA.out W0 (HE.out.kept Hb0.out)).mono ?_
  rintro e w2 ⟨rfl, hb2⟩
  have Hb2 := Lib.hid (bel2 Hb0.out hb2)
  have HB2 := Lib.hid (HB0.out.kept hb2)
  obtain ⟨W3, hW3⟩ : ∃ W, W = w2.alloc (.cells (adr false z16) 24) := ⟨_, rfl⟩
  have hBW3 : Blk W3 w2.heap.size 24 (adr false z16) := hW3 ▸ Blk.new w2 _ _
  have hbW3 : Below w2.heap.size w2 W3 := hW3 ▸ (Below.refl _ _).alloc (Nat.le_refl _) _
  have HW3 : Hid (w2.alloc (.cells #[.bool false, .int .u8 0, .int .u8 0, .int .u8 0, .int .u8 0, .int .u8 0, .int .u8 0, .int .u8 0, .int .u8 0, .int .u8 0, .int .u8 0, .int .u8 0, .int .u8 0, .int .u8 0, .int .u8 0, .int .u8 0, .int .u8 0] 24) = W3) := Lib.hid hW3.symm
  have HB3 := Lib.hid hBW3
  obtain ⟨V, hV⟩ : ∃ V, V = W3.setRow w2.heap.size (adr true ab) := ⟨_, rfl⟩
  have HV := Lib.hid hV.symm
  have hsz : w.heap.size < w2.heap.size := HB2.out.lt
  have HBV : Hid (Blk V w2.heap.size 24 (adr true ab)) := Lib.hid (hV ▸ hBW3.row _)
  have HBR : Hid (Blk V w.heap.size 24 (adr false z16)) := Lib.hid (hV ▸ (HB2.out.kept hbW3).rowOther (by omega) _)
  have HbV : Hid (Below w.heap.size w V) := Lib.hid (hV ▸ below_setRow (bel2 Hb2.out hbW3) (by omega) _)
  have hc0 : V.cell? ⟨w2.heap.size, 0, none⟩ = some (.bool true) := by rw [HBV.out.cell]; rfl
  clear hb2 hW3 hBW3 hbW3 hV
  go_wp2_with ((try rw [HW3.out]); first | (refine wpl_store 24 _ _ rfl w2.heap.size (adr true ab) rfl rfl _ _ HB3.out 17 Tryz.infoAddr L17.out rfl (adr_one _ _) rfl ?_; rw [HV.out]) | (refine wpl_store 24 _ _ rfl w.heap.size (adr false z16) rfl rfl _ _ HBR.out 17 Tryz.infoAddr rfl rfl (adr_one _ _) rfl ?_))
  exact retA2 rfl w.heap.size rfl _ _ _ (HBR.out.row _) Tryz.underlying24 rfl 17 Tryz.infoAddr rfl rfl _ rfl ⟨rfl, below_setRow HbV.out (Nat.le_refl _) _⟩

set_option maxRecDepth 100000 in
set_option maxHeartbeats 4000000 in
theorem pa_f_hit (s : ByteArray) (ab : List Int) (hl : ab.length = 16) (E : Value) (w : World) (hE : Env E w)
    (cP : ∀ w, Calls Tryz.prog 107 #[.string s, .string ⟨#[91]⟩] w fun e w' => e = .returned (.bool false) ∧ w' = w)
    (cA : ∀ w, Env E w → Calls Tryz.prog 46 #[.string s] w fun e w' => e = .returned (.tuple #[.agg (adr false ab), .nilIface]) ∧ Below w.heap.size w w') :
    Calls Tryz.prog 74 #[.string s] w fun e w' => e = .returned (.tuple #[.agg (adr false ab), .bool true]) ∧ Below w.heap.size w w' := by
  obtain ⟨W0, hW0⟩ : ∃ W, W = w.alloc (.cells (adr false z16) 24) := ⟨_, rfl⟩
  have hBW0 : Blk W0 w.heap.size 24 (adr false z16) := hW0 ▸ Blk.new w _ _
  have hbW0 : Below w.heap.size w W0 := hW0 ▸ (Below.refl _ _).alloc (Nat.le_refl _) _
  have HW0 : Hid (w.alloc (.cells #[.bool false, .int .u8 0, .int .u8 0, .int .u8 0, .int .u8 0, .int .u8 0, .int .u8 0, .int .u8 0, .int .u8 0, .int .u8 0, .int .u8 0, .int .u8 0, .int .u8 0, .int .u8 0, .int .u8 0, .int .u8 0, .int .u8 0] 24) = W0) := Lib.hid hW0.symm
  have HB0 := Lib.hid hBW0
  have Hb0 := Lib.hid hbW0
  have HE := Lib.hid hE
  have CP := Lib.hid cP
  have CA := Lib.hid cA
  have L17 : Hid (17 = (adr false ab).size) := Lib.hid (by rw [adr_size, hl])
  clear hW0 hBW0 hbW0 hE cP cA hl
  go_enter Tryz.func74, Tryz.ntmps74
  go_wp2_with fail
  rw [HW0.out]
  refine (CP.out W0).mono ?_
  rintro e w1 ⟨rfl, hw1⟩
  rw [hw1]
  clear hw1
  go_wp2_with fail
  refine (CA.out W0 (HE.out.kept Hb0.out)).mono ?_
  rintro e w2 ⟨rfl, hb2⟩
  have Hb2 := Lib.hid (bel2 Hb0.out hb2)
  have HB2 := Lib.hid (HB0.out.kept hb2)
  obtain ⟨W3, hW3⟩ : ∃ W, W = w2.alloc (.cells (adr false z16) 24) := ⟨_, rfl⟩
  have hBW3 : Blk W3 w2.heap.size 24 (adr false z16) := hW3 ▸ Blk.new w2 _ _
  have hbW3 : Below w2.heap.size w2 W3 := hW3 ▸ (Below.refl _ _).alloc (Nat.le_refl _) _
  have HW3 : Hid (w2.alloc (.cells #[.bool false, .int .u8 0, .int .u8 0, .int .u8 0, .int .u8 0, .int .u8 0, .int .u8 0, .int .u8 0, .int .u8 0, .int .u8 0, .int .u8 0, .int .u8 0, .int .u8 0, .int .u8 0, .int .u8 0, .int .u8 0, .int .u8 0] 24) = W3) := Lib.hid hW3.symm
  have HB3 := Lib.hid hBW3
  obtain ⟨V, hV⟩ : ∃ V, V = W3.setRow w2.heap.size (adr false ab) := ⟨_, rfl⟩
  have HV := Lib.hid hV.symm
  have hsz : w.heap.size < w2.heap.size := HB2.out.lt
  have HBV : Hid (Blk V w2.heap.size 24 (adr false ab)) := Lib.hid (hV ▸ hBW3.row _)
  have HBR : Hid (Blk V w.heap.size 24 (adr false z16)) := Lib.hid (hV ▸ (HB2.out.kept hbW3).rowOther (by omega) _)
  have HbV : Hid (Below w.heap.size w V) := Lib.hid (hV ▸ below_setRow (bel2 Hb2.out hbW3) (by omega) _)
  have hc0 : V.cell? ⟨w2.heap.size, 0, none⟩ = some (.bool false) := by rw [HBV.out.cell]; rfl
  clear hb2 hW3 hBW3 hbW3 hV
  go_wp2_with ((try rw [HW3.out]); first | (refine wpl_store 24 _ _ rfl w2.heap.size (adr false ab) rfl rfl _ _ HB3.out 17 Tryz.infoAddr L17.out rfl (adr_one _ _) rfl ?_; rw [HV.out]) | (refine wpl_load 24 _ rfl w2.heap.size rfl _ _ _ HBV.out Tryz.underlying24 rfl 17 Tryz.infoAddr L17.out rfl ?_) | (refine wpl_store 24 _ _ rfl w.heap.size (adr false ab) rfl rfl _ _ HBR.out 17 Tryz.infoAddr L17.out rfl (adr_one _ _) rfl ?_))
  exact retA2 rfl w.heap.size rfl _ _ _ (HBR.out.row _) Tryz.underlying24 rfl 17 Tryz.infoAddr L17.out rfl _ rfl ⟨rfl, below_setRow HbV.out (Nat.le_refl _) _⟩

set_option maxRecDepth 100000 in
set_option maxHeartbeats 4000000 in
theorem pa_tf_none (s : ByteArray) (ab : List Int) (hl : ab.length = 16) (ue : TypeId) (pe : Value) (E : Value) (w : World) (hE : Env E w)
    (cP : ∀ w, Calls Tryz.prog 107 #[.string s, .string ⟨#[91]⟩] w fun e w' => e = .returned (.bool true) ∧ w' = w)
    (cS : ∀ w, Calls Tryz.prog 108 #[.string s, .string ⟨#[93]⟩] w fun e w' => e = .returned (.bool false) ∧ w' = w)
    (cA : ∀ w, Env E w → Calls Tryz.prog 46 #[.string s] w fun e w' => e = .returned (.tuple #[.agg (adr false ab), .iface ue pe]) ∧ Below w.heap.size w w') :
    Calls Tryz.prog 74 #[.string s] w fun e w' => e = .returned (.tuple #[.agg (adr false z16), .bool false]) ∧ Below w.heap.size w w' := by
  obtain ⟨W0, hW0⟩ : ∃ W, W = w.alloc (.cells (adr false z16) 24) := ⟨_, rfl⟩
  have hBW0 : Blk W0 w.heap.size 24 (adr false z16) := hW0 ▸ Blk.new w _ _
  have hbW0 : Below w.heap.size w W0 := hW0 ▸ (Below.refl _ _).alloc (Nat.le_refl _) _
  have HW0 : Hid (w.alloc (.cells #[.bool false, .int .u8 0, .int .u8 0, .int .u8 0, .int .u8 0, .int .u8 0, .int .u8 0, .int .u8 0, .int .u8 0, .int .u8 0, .int .u8 0, .int .u8 0, .int .u8 0, .int .u8 0, .int .u8 0, .int .u8 0, .int .u8 0] 24) = W0) := Lib.hid hW0.symm
  have HB0 := Lib.hid hBW0
  have Hb0 := Lib.hid hbW0
  have HE := Lib.hid hE
  have CP := Lib.hid cP
  have CS := Lib.hid cS
  have CA := Lib.hid cA
  have L17 : Hid (17 = (adr false ab).size) := Lib.hid (by rw [adr_size, hl])
  clear hW0 hBW0 hbW0 hE cP cS cA hl
  go_enter Tryz.func74, Tryz.ntmps74
  go_wp2_with fail
  rw [HW0.out]
  refine (CP.out W0).mono ?_
  rintro e w1 ⟨rfl, hw1⟩
  rw [hw1]
  clear hw1
  go_wp2_with fail
  refine (CS.out W0).mono ?_
  rintro e w1 ⟨rfl, hw1⟩
  rw [hw1]
  clear hw1
  go_wp2_with fail
  refine (CA.out W0 (HE.out.kept Hb0.out)).mono ?_
  rintro e w2 ⟨rfl, hb2⟩
  have Hb2 := Lib.hid (bel2 Hb0.out hb2)
  have HB2 := Lib.hid (HB0.out.kept hb2)
  obtain ⟨W3, hW3⟩ : ∃ W, W = w2.alloc (.cells (adr false z16) 24) := ⟨_, rfl⟩
  have hBW3 : Blk W3 w2.heap.size 24 (adr false z16) := hW3 ▸ Blk.new w2 _ _
  have hbW3 : Below w2.heap.size w2 W3 := hW3 ▸ (Below.refl _ _).alloc (Nat.le_refl _) _
  have HW3 : Hid (w2.alloc (.cells #[.bool false, .int .u8 0, .int .u8 0, .int .u8 0, .int .u8 0, .int .u8 0, .int .u8 0, .int .u8 0, .int .u8 0, .int .u8 0, .int .u8 0, .int .u8 0, .int .u8 0, .int .u8 0, .int .u8 0, .int .u8 0, .int .u8 0] 24) = W3) := Lib.hid hW3.symm
  have HB3 := Lib.hid hBW3
  obtain ⟨V, hV⟩ : ∃ V, V = W3.setRow w2.heap.size (adr false ab) := ⟨_, rfl⟩
  have HV := Lib.hid hV.symm
  have hsz : w.heap.size < w2.heap.size := HB2.out.lt
  have HBV : Hid (Blk V w2.heap.size 24 (adr false ab)) := Lib.hid (hV ▸ hBW3.row _)
  have HBR : Hid (Blk V w.heap.size 24 (adr false z16)) := Lib.hid (hV ▸ (HB2.out.kept hbW3).rowOther (by omega) _)
  have HbV : Hid (Below w.heap.size w V) := Lib.hid (hV ▸ below_setRow (bel2 Hb2.out hbW3) (by omega) _)
  have hc0 : V.cell? ⟨w2.heap.size, 0, none⟩ = some (.bool false) := by rw [HBV.out.cell]; rfl
  clear hb2 hW3 hBW3 hbW3 hV
  go_wp2_with ((try rw [HW3.out]); first | (refine wpl_store 24 _ _ rfl w2.heap.size (adr false ab) rfl rfl _ _ HB3.out 17 Tryz.infoAddr L17.out rfl (adr_one _ _) rfl ?_; rw [HV.out]) | (refine wpl_store 24 _ _ rfl w.heap.size (adr false z16) rfl rfl _ _ HBR.out 17 Tryz.infoAddr rfl rfl (adr_one _ _) rfl ?_))
  exact retA2 rfl w.heap.size rfl _ _ _ (HBR.out.row _) Tryz.underlying24 rfl 17 Tryz.infoAddr rfl rfl _ rfl ⟨rfl, below_setRow HbV.out (Nat.le_refl _) _⟩

set_option maxRecDepth 100000 in
set_option maxHeartbeats 4000000 in
theorem pa_tf_miss (s : ByteArray) (ab : List Int) (hl : ab.length = 16) (E : Value) (w : World) (hE : Env E w)
    (cP : ∀ w, Calls Tryz.prog 107 #[.string s, .string ⟨#[91]⟩] w fun e w' => e = .returned (.bool true) ∧ w' = w)
    (cS : ∀ w, Calls Tryz.prog 108 #[.string s, .string ⟨#[93]⟩] w fun e w' => e = .returned (.bool false) ∧ w' = w)
    (cA : ∀ w, Env E w → Calls Tryz.prog 46 #[.string s] w fun e w' => e = .returned (.tuple #[.agg (adr true ab), .nilIface]) ∧ Below w.heap.size w w') :
    Calls Tryz.prog 74 #[.string s] w fun e w' => e = .returned (.tuple #[.agg (adr false z16), .bool false]) ∧ Below w.heap.size w w' := by
  obtain ⟨W0, hW0⟩ : ∃ W, W = w.alloc (.cells (adr false z16) 24) := ⟨_, rfl⟩
  have hBW0 : Blk W0 w.heap.size 24 (adr false z16) := hW0 ▸ Blk.new w _ _
  have hbW0 : Below w.heap.size w W0 := hW0 ▸ (Below.refl _ _).alloc (Nat.le_refl _) _
  have HW0 : Hid (w.alloc (.cells #[.bool false, .int .u8 0, .int .u8 0, .int .u8 0, .int .u8 0, .int .u8 0, .int .u8 0, .int .u8 0, .int .u8 0, .int .u8 0, .int .u8 0, .int .u8 0, .int .u8 0, .int .u8 0, .int .u8 0, .int .u8 0, .int .u8 0] 24) = W0) := Lib.hid hW0.symm
  have HB0 := Lib.hid hBW0
  have Hb0 := Lib.hid hbW0
  have HE := Lib.hid hE
  have CP := Lib.hid cP
  have CS := Lib.hid cS
  have CA := Lib.hid cA
  have L17 : Hid (17 = (adr true ab).size) := Lib.hid (by rw [adr_size, hl])
  clear hW0 hBW0 hbW0 hE cP cS cA hl
  go_enter Tryz.func74, Tryz.ntmps74
  go_wp2_with fail
  rw [HW0.out]
  refine (CP.out W0).mono ?_
  rintro e w1 ⟨rfl, hw1⟩
  rw [hw1]
  clear hw1
  go_wp2_with fail
  refine (CS.out W0).mono ?_
  rintro e w1 ⟨rfl, hw1⟩
  rw [hw1]
  clear hw1
  go_wp2_with fail
  refine (CA.out W0 (HE.out.kept Hb0.out)).mono ?_
  rintro e w2 ⟨rfl, hb2⟩
  have Hb2 := Lib.hid (bel2 Hb0.out hb2)
  have HB2 := Lib.hid (HB0.out.kept hb2)
  obtain ⟨W3, hW3⟩ : ∃ W, W = w2.alloc (.cells (adr false z16) 24) := ⟨_, rfl⟩
  have hBW3 : Blk W3 w2.heap.size 24 (adr false z16) := hW3 ▸ Blk.new w2 _ _
  have hbW3 : Below w2.heap.size w2 W3 := hW3 ▸ (Below.refl _ _).alloc (Nat.le_refl _) _
  have HW3 : Hid (w2.alloc (.cells #[.bool false, .int .u8 0, .int .u8 0, .int .u8 0, .int .u8 0, .int .u8 0, .int .u8 0, .int .u8 0, .int .u8 0, .int .u8 0, .int .u8 0, .int .u8 0, .int .u8 0, .int .u8 0, .int .u8 0, .int .u8 0, .int .u8 0] 24) = W3) := Lib.hid hW3.symm
  have HB3 := Lib.hid hBW3
  obtain ⟨V, hV⟩ : ∃ V, V = W3.setRow w2.heap.size (adr true ab) := ⟨_, rfl⟩
  have HV := Lib.hid hV.symm
  have hsz : w.heap.size < w2.heap.size := HB2.out.lt
  have HBV : Hid (Blk V w2.heap.size 24 (adr true ab)) := Lib.hid (hV ▸ hBW3.row _)
  have HBR : Hid (Blk V w.heap.size 24 (adr false z16)) := Lib.hid (hV ▸ (HB2.out.kept hbW3).rowOther (by omega) _)
  have HbV : Hid (Below w.heap.size w V) := Lib.hid (hV ▸ below_setRow (bel2 Hb2.out hbW3) (by omega) _)
  have hc0 : V.cell? ⟨w2.heap.size, 0, none⟩ = some (.bool true) := by rw [HBV.out.cell]; rfl
  clear hb2 hW3 hBW3 hbW3 hV
  go_wp2_with ((try rw [HW3.out]); first | (refine wpl_store 24 _ _ rfl w2.heap.size (adr true ab) rfl rfl _ _ HB3.out 17 Tryz.infoAddr L17.out rfl (adr_one _ _) rfl ?_; rw [HV.out]) | (refine wpl_store 24 _ _ rfl w.heap.size (adr false z16) rfl rfl _ _ HBR.out 17 Tryz.infoAddr rfl rfl (adr_one _ _) rfl ?_))
  exact retA2 rfl w.heap.size rfl _ _ _ (HBR.out.row _) Tryz.underlying24 rfl 17 Tryz.infoAddr rfl rfl _ rfl ⟨rfl, below_setRow HbV.out (Nat.le_refl _) _⟩

set_option maxRecDepth 100000 in
set_option maxHeartbeats 4000000 in
theorem pa_tf_hit (s : ByteArray) (ab : List Int) (hl : ab.length = 16) (E : Value) (w : World) (hE : Env E w)
    (cP : ∀ w, Calls Tryz.prog 107 #[.string s, .string ⟨#[91]⟩] w fun e w' => e = .returned (.bool true) ∧ w' = w)
    (cS : ∀ w, Calls Tryz.prog 108 #[.string s, .string ⟨#[93]⟩] w fun e w' => e = .returned (.bool false) ∧ w' = w)
    (cA : ∀ w, Env E w → Calls Tryz.prog 46 #[.string s] w fun e w' => e = .returned (.tuple #[.agg (adr false ab), .nilIface]) ∧ Below w.heap.size w w') :
    Calls Tryz.prog 74 #[.string s] w fun e w' => e = .returned (.tuple #[.agg (adr false ab), .bool true]) ∧ Below w.heap.size w w' := by
  obtain ⟨W0, hW0⟩ : ∃ W, W = w.alloc (.cells (adr false z16) 24) := ⟨_, rfl⟩
  have hBW0 : Blk W0 w.heap.size 24 (adr false z16) := hW0 ▸ Blk.new w _ _
  have hbW0 : Below w.heap.size w W0 := hW0 ▸ (Below.refl _ _).alloc (Nat.le_refl _) _
  have HW0 : Hid (w.alloc (.cells #[.bool false, .int .u8 0, .int .u8 0, .int .u8 0, .int .u8 0, .int .u8 0, .int .u8 0, .int .u8 0, .int .u8 0, .int .u8 0, .int .u8 0, .int .u8 0, .int .u8 0, .int .u8 0, .int .u8 0, .int .u8 0, .int .u8 0] 24) = W0) := Lib.hid hW0.symm
  have HB0 := Lib.hid hBW0
  have Hb0 := Lib.hid hbW0
  have HE := Lib.hid hE
  have CP := Lib.hid cP
  have CS := Lib.hid cS
  have CA := Lib.hid cA
  have L17 : Hid (17 = (adr false ab).size) := Lib.hid (by rw [adr_size, hl])
  clear hW0 hBW0 hbW0 hE cP cS cA hl
  go_enter Tryz.func74, Tryz.ntmps74
  go_wp2_with fail
  rw [HW0.out]
  refine (CP.out W0).mono ?_
  rintro e w1 ⟨rfl, hw1⟩
  rw [hw1]
  clear hw1
  go_wp2_with fail
  refine (CS.out W0).mono ?_
  rintro e w1 ⟨rfl, hw1⟩
  rw [hw1]
  clear hw1
  go_wp2_with fail
  refine (CA.out W0 (HE.out.kept Hb0.out)).mono ?_
  rintro e w2 ⟨rfl, hb2⟩
  have Hb2 := Lib.hid (bel2 Hb0.out hb2)
  have HB2 := Lib.hid (HB0.out.kept hb2)
  obtain ⟨W3, hW3⟩ : ∃ W, W = w2.alloc (.cells (adr false z16) 24) := ⟨_, rfl⟩
  have hBW3 : Blk W3 w2.heap.size 24 (adr false z16) := hW3 ▸ Blk.new w2 _ _
  have hbW3 : Below w2.heap.size w2 W3 := hW3 ▸ (Below.refl _ _).alloc (Nat.le_refl _) _
  have HW3 : Hid (w2.alloc (.cells #[.bool false, .int .u8 0, .int .u8 0, .int .u8 0, .int .u8 0, .int .u8 0, .int .u8 0, .int .u8 0, .int .u8 0, .int .u8 0, .int .u8 0, .int .u8 0, .int .u8 0, .int .u8 0, .int .u8 0, .int .u8 0, .int .u8 0] 24) = W3) := Lib.hid hW3.symm
  have HB3 := Lib.hid hBW3
  obtain ⟨V, hV⟩ : ∃ V, V = W3.setRow w2.heap.size (adr false ab) := ⟨_, rfl⟩
  have HV := Lib.hid hV.symm
  have hsz : w.heap.size < w2.heap.size := HB2.out.lt
  have HBV : Hid (Blk V w2.heap.size 24 (adr false ab)) := Lib.hid (hV ▸ hBW3.row _)
  have HBR : Hid (Blk V w.heap.size 24 (adr false z16)) := Lib.hid (hV ▸ (HB2.out.kept hbW3).rowOther (by omega) _)
  have HbV : Hid (Below w.heap.size w V) := Lib.hid (hV ▸ below_setRow (bel2 Hb2.out hbW3) (by omega) _)
  have hc0 : V.cell? ⟨w2.heap.size, 0, none⟩ = some (.bool false) := by rw [HBV.out.cell]; rfl
  clear hb2 hW3 hBW3 hbW3 hV
  go_wp2_with ((try rw [HW3.out]); first | (refine wpl_store 24 _ _ rfl w2.heap.size (adr false ab) rfl rfl _ _ HB3.out 17 Tryz.infoAddr L17.out rfl (adr_one _ _) rfl ?_; rw [HV.out]) | (refine wpl_load 24 _ rfl w2.heap.size rfl _ _ _ HBV.out Tryz.underlying24 rfl 17 Tryz.infoAddr L17.out rfl ?_) | (refine wpl_store 24 _ _ rfl w.heap.size (adr false ab) rfl rfl _ _ HBR.out 17 Tryz.infoAddr L17.out rfl (adr_one _ _) rfl ?_))
  exact retA2 rfl w.heap.size rfl _ _ _ (HBR.out.row _) Tryz.underlying24 rfl 17 Tryz.infoAddr L17.out rfl _ rfl ⟨rfl, below_setRow HbV.out (Nat.le_refl _) _⟩

set_option maxRecDepth 100000 in
set_option maxHeartbeats 4000000 in
theorem pa_tt_none (s t : ByteArray) (ab : List Int) (hl : ab.length = 16) (ue : TypeId) (pe : Value) (E : Value) (w : World) (hE : Env E w)
    (cP : ∀ w, Calls Tryz.prog 107 #[.string s, .string ⟨#[91]⟩] w fun e w' => e = .returned (.bool true) ∧ w' = w)
    (cS : ∀ w, Calls Tryz.prog 108 #[.string s, .string ⟨#[93]⟩] w fun e w' => e = .returned (.bool true) ∧ w' = w)
    (m : Nat) (em : IntKind.i64.wrap ((s.size : Int) - 1) = (m : Int)) (hsl : ∀ w, (Instr.sliceAt 9 (.string s) (some (.int .i64 1)) (some (.int .i64 (m : Int))) none).run Tryz.prog w = .ok (.string t) w)
    (cA : ∀ w, Env E w → Calls Tryz.prog 46 #[.string t] w fun e w' => e = .returned (.tuple #[.agg (adr false ab), .iface ue pe]) ∧ Below w.heap.size w w') :
    Calls Tryz.prog 74 #[.string s] w fun e w' => e = .returned (.tuple #[.agg (adr false z16), .bool false]) ∧ Below w.heap.size w w' := by
  obtain ⟨W0, hW0⟩ : ∃ W, W = w.alloc (.cells (adr false z16) 24) := ⟨_, rfl⟩
  have hBW0 : Blk W0 w.heap.size 24 (adr false z16) := hW0 ▸ Blk.new w _ _
  have hbW0 : Below w.heap.size w W0 := hW0 ▸ (Below.refl _ _).alloc (Nat.le_refl _) _
  have HW0 : Hid (w.alloc (.cells #[.bool false, .int .u8 0, .int .u8 0, .int .u8 0, .int .u8 0, .int .u8 0, .int .u8 0, .int .u8 0, .int .u8 0, .int .u8 0, .int .u8 0, .int .u8 0, .int .u8 0, .int .u8 0, .int .u8 0, .int .u8 0, .int .u8 0] 24) = W0) := Lib.hid hW0.symm
  have HB0 := Lib.hid hBW0
  have Hb0 := Lib.hid hbW0
  have HE := Lib.hid hE
  have CP := Lib.hid cP
  have CS := Lib.hid cS
  have CA := Lib.hid cA
  have L17 : Hid (17 = (adr false ab).size) := Lib.hid (by rw [adr_size, hl])
  clear hW0 hBW0 hbW0 hE cP cS cA hl
  go_enter Tryz.func74, Tryz.ntmps74
  go_wp2_with fail
  rw [HW0.out]
  refine (CP.out W0).mono ?_
  rintro e w1 ⟨rfl, hw1⟩
  rw [hw1]
  clear hw1
  go_wp2_with fail
  refine (CS.out W0).mono ?_
  rintro e w1 ⟨rfl, hw1⟩
  rw [hw1]
  clear hw1
  go_wp2_with fail
  refine (CA.out W0 (HE.out.kept Hb0.out)).mono ?_
  rintro e w2 ⟨rfl, hb2⟩
  have Hb2 := Lib.hid (bel2 Hb0.out hb2)
  have HB2 := Lib.hid (HB0.out.kept hb2)
  obtain ⟨W3, hW3⟩ : ∃ W, W = w2.alloc (.cells (adr false z16) 24) := ⟨_, rfl⟩
  have hBW3 : Blk W3 w2.heap.size 24 (adr false z16) := hW3 ▸ Blk.new w2 _ _
  have hbW3 : Below w2.heap.size w2 W3 := hW3 ▸ (Below.refl _ _).alloc (Nat.le_refl _) _
  have HW3 : Hid (w2.alloc (.cells #[.bool false, .int .u8 0, .int .u8 0, .int .u8 0, .int .u8 0, .int .u8 0, .int .u8 0, .int .u8 0, .int .u8 0, .int .u8 0, .int .u8 0, .int .u8 0, .int .u8 0, .int .u8 0, .int .u8 0, .int .u8 0, .int .u8 0] 24) = W3) := Lib.hid hW3.symm
  have HB3 := Lib.hid hBW3
  obtain ⟨V, hV⟩ : ∃ V, V = W3.setRow w2.heap.size (adr false ab) := ⟨_, rfl⟩
  have HV := Lib.hid hV.symm
  have hsz : w.heap.size < w2.heap.size := HB2.out.lt
  have HBV : Hid (Blk V w2.heap.size 24 (adr false ab)) := Lib.hid (hV ▸ hBW3.row _)
  have HBR : Hid (Blk V w.heap.size 24 (adr false z16)) := Lib.hid (hV ▸ (HB2.out.kept hbW3).rowOther (by omega) _)
  have HbV : Hid (Below w.heap.size w V) := Lib.hid (hV ▸ below_setRow (bel2 Hb2.out hbW3) (by omega) _)
  have hc0 : V.cell? ⟨w2.heap.size, 0, none⟩ = some (.bool false) := by rw [HBV.out.cell]; rfl
  clear hb2 hW3 hBW3 hbW3 hV
  go_wp2_with ((try rw [HW3.out]); first | (refine wpl_store 24 _ _ rfl w2.heap.size (adr false ab) rfl rfl _ _ HB3.out 17 Tryz.infoAddr L17.out rfl (adr_one _ _) rfl ?_; rw [HV.out]) | (refine wpl_store 24 _ _ rfl w.heap.size (adr false z16) rfl rfl _ _ HBR.out 17 Tryz.infoAddr rfl rfl (adr_one _ _) rfl ?_))
  exact retA2 rfl w.heap.size rfl _ _ _ (HBR.out.row _) Tryz.underlying24 rfl 17 Tryz.infoAddr rfl rfl _ rfl ⟨rfl, below_setRow HbV.out (Nat.le_refl _) _⟩

set_option maxRecDepth 100000 in
set_option maxHeartbeats 4000000 in
theorem pa_tt_miss (s t : ByteArray) (ab : List Int) (hl : ab.length = 16) (E : Value) (w : World) (hE : Env E w)
    (cP : ∀ w, Calls Tryz.prog 107 #[.string s, .string ⟨#[91]⟩] w fun e w' => e = .returned (.bool true) ∧ w' = w)
    (cS : ∀ w, Calls Tryz.prog 108 #[.string s, .string ⟨#[93]⟩] w fun e w' => e = .returned (.bool true) ∧ w' = w)
    (m : Nat) (em : IntKind.i64.wrap ((s.size : Int) - 1) = (m : Int)) (hsl : ∀ w, (Instr.sliceAt 9 (.string s) (some (.int .i64 1)) (some (.int .i64 (m : Int))) none).run Tryz.prog w = .ok (.string t) w)
    (cA : ∀ w, Env E w → Calls Tryz.prog 46 #[.string t] w fun e w' => e = .returned (.tuple #[.agg (adr false ab), .nilIface]) ∧ Below w.heap.size w w') :
    Calls Tryz.prog 74 #[.string s] w fun e w' => e = .returned (.tuple #[.agg (adr false z16), .bool false]) ∧ Below w.heap.size w w' := by
  obtain ⟨W0, hW0⟩ : ∃ W, W = w.alloc (.cells (adr false z16) 24) := ⟨_, rfl⟩
  have hBW0 : Blk W0 w.heap.size 24 (adr false z16) := hW0 ▸ Blk.new w _ _
  have hbW0 : Below w.heap.size w W0 := hW0 ▸ (Below.refl _ _).alloc (Nat.le_refl _) _
  have HW0 : Hid (w.alloc (.cells #[.bool false, .int .u8 0, .int .u8 0, .int .u8 0, .int .u8 0, .int .u8 0, .int .u8 0, .int .u8 0, .int .u8 0, .int .u8 0, .int .u8 0, .int .u8 0, .int .u8 0, .int .u8 0, .int .u8 0, .int .u8 0, .int .u8 0] 24) = W0) := Lib.hid hW0.symm
  have HB0 := Lib.hid hBW0
  have Hb0 := Lib.hid hbW0
  have HE := Lib.hid hE
  have CP := Lib.hid cP
  have CS := Lib.hid cS
  have CA := Lib.hid cA
  have L17 : Hid (17 = (adr false ab).size) := Lib.hid (by rw [adr_size, hl])
  clear hW0 hBW0 hbW0 hE cP cS cA hl
  go_enter Tryz.func74, Tryz.ntmps74
  go_wp2_with fail
  rw [HW0.out]
  refine (CP.out W0).mono ?_
  rintro e w1 ⟨rfl, hw1⟩
  rw [hw1]
  clear hw1
  go_wp2_with fail
  refine (CS.out W0).mono ?_
  rintro e w1 ⟨rfl, hw1⟩
  rw [hw1]
  clear hw1
  go_wp2_with fail
  refine (CA.out W0 (HE.out.kept Hb0.out)).mono ?_
  rintro e w2 ⟨rfl, hb2⟩
  have Hb2 := Lib.hid (bel2 Hb0.out hb2)
  have HB2 := Lib.hid (HB0.out.kept hb2)
  obtain ⟨W3, hW3⟩ : ∃ W, W = w2.alloc (.cells (adr false z16) 24) := ⟨_, rfl⟩
  have hBW3 : Blk W3 w2.heap.size 24 (adr false z16) := hW3 ▸ Blk.new w2 _ _
  have hbW3 : Below w2.heap.size w2 W3 := hW3 ▸ (Below.refl _ _).alloc (Nat.le_refl _) _
  have HW3 : Hid (w2.alloc (.cells #[.bool false, .int .u8 0, .int .u8 0, .int .u8 0, .int .u8 0, .int .u8 0, .int .u8 0, .int .u8 0, .int .u8 0, .int .u8 0, .int .u8 0, .int .u8 0, .int .u8 0, .int .u8 0, .int .u8 0, .int .u8 0, .int .u8 0] 24) = W3) := Lib.hid hW3.symm
  have HB3 := Lib.hid hBW3
  obtain ⟨V, hV⟩ : ∃ V, V = W3.setRow w2.heap.size (adr false ab) := ⟨_, rfl⟩
  have HV := Lib.hid hV.symm
  have hsz : w.heap.size < w2.heap.size := HB2.out.lt
  have HBV : Hid (Blk V w2.heap.size 24 (adr false ab)) := Lib.hid (hV ▸ hBW3.row _)
  have HBR : Hid (Blk V w.heap.size 24 (adr false z16)) := Lib.hid (hV ▸ (HB2.out.kept hbW3).rowOther (by omega) _)
  have HbV : Hid (Below w.heap.size w V) := Lib.hid (hV ▸ below_setRow (bel2 Hb2.out hbW3) (by omega) _)
  have hc0 : V.cell? ⟨w2.heap.size, 0, none⟩ = some (.bool false) := by rw [HBV.out.cell]; rfl
  clear hb2 hW3 hBW3 hbW3 hV
  go_wp2_with ((try rw [HW3.out]); first | (refine wpl_store 24 _ _ rfl w2.heap.size (adr false ab) rfl rfl _ _ HB3.out 17 Tryz.infoAddr L17.out rfl (adr_one _ _) rfl ?_; rw [HV.out]) | (refine wpl_store 24 _ _ rfl w.heap.size (adr false z16) rfl rfl _ _ HBR.out 17 Tryz.infoAddr rfl rfl (adr_one _ _) rfl ?_))
  exact retA2 rfl w.heap.size rfl _ _ _ (HBR.out.row _) Tryz.underlying24 rfl 17 Tryz.infoAddr rfl rfl _ rfl ⟨rfl, below_setRow HbV.out (Nat.le_refl _) _⟩

set_option maxRecDepth 100000 in
set_option maxHeartbeats 4000000 in
theorem pa_tt_hit (s t : ByteArray) (ab : List Int) (hl : ab.length = 16) (E : Value) (w : World) (hE : Env E w)
    (cP : ∀ w, Calls Tryz.prog 107 #[.string s, .string ⟨#[91]⟩] w fun e w' => e = .returned (.bool true) ∧ w' = w)
    (cS : ∀ w, Calls Tryz.prog 108 #[.string s, .string ⟨#[93]⟩] w fun e w' => e = .returned (.bool true) ∧ w' = w)
    (m : Nat) (em : IntKind.i64.wrap ((s.size : Int) - 1) = (m : Int)) (hsl : ∀ w, (Instr.sliceAt 9 (.string s) (some (.int .i64 1)) (some (.int .i64 (m : Int))) none).run Tryz.prog w = .ok (.string t) w)
    (cA : ∀ w, Env E w → Calls Tryz.prog 46 #[.string t] w fun e w' => e = .returned (.tuple #[.agg (adr true ab), .nilIface]) ∧ Below w.heap.size w w') :
    Calls Tryz.prog 74 #[.string s] w fun e w' => e = .returned (.tuple #[.agg (adr true ab), .bool true]) ∧ Below w.heap.size w w' := by
  obtain ⟨W0, hW0⟩ : ∃ W, W = w.alloc (.cells (adr false z16) 24) := ⟨_, rfl⟩
  have hBW0 : Blk W0 w.heap.size 24 (adr false z16) := hW0 ▸ Blk.new w _ _
  have hbW0 : Below w.heap.size w W0 := hW0 ▸ (Below.refl _ _).alloc (Nat.le_refl _) _
  have HW0 : Hid (w.alloc (.cells #[.bool false, .int .u8 0, .int .u8 0, .int .u8 0, .int .u8 0, .int .u8 0, .int .u8 0, .int .u8 0, .int .u8 0, .int .u8 0, .int .u8 0, .int .u8 0, .int .u8 0, .int .u8 0, .int .u8 0, .int .u8 0, .int .u8 0] 24) = W0) := Lib.hid hW0.symm
  have HB0 := Lib.hid hBW0
  have Hb0 := Lib.hid hbW0
  have HE := Lib.hid hE
  have CP := Lib.hid cP
  have CS := Lib.hid cS
  have CA := Lib.hid cA
  have L17 : Hid (17 = (adr true ab).size) := Lib.hid (by rw [adr_size, hl])
  clear hW0 hBW0 hbW0 hE cP cS cA hl
  go_enter Tryz.func74, Tryz.ntmps74
  go_wp2_with fail
  rw [HW0.out]
  refine (CP.out W0).mono ?_
  rintro e w1 ⟨rfl, hw1⟩
  rw [hw1]
  clear hw1
  go_wp2_with fail
  refine (CS.out W0).mono ?_
  rintro e w1 ⟨rfl, hw1⟩
  rw [hw1]
  clear hw1
  go_wp2_with fail
  refine (CA.out W0 (HE.out.kept Hb0.out)).mono ?_
  rintro e w2 ⟨rfl, hb2⟩
  have Hb2 := Lib.hid (bel2 Hb0.out hb2)
  have HB2 := Lib.hid (HB0.out.kept hb2)
  obtain ⟨W3, hW3⟩ : ∃ W, W = w2.alloc (.cells (adr false z16) 24) := ⟨_, rfl⟩
  have hBW3 : Blk W3 w2.heap.size 24 (adr false z16) := hW3 ▸ Blk.new w2 _ _
  have hbW3 : Below w2.heap.size w2 W3 := hW3 ▸ (Below.refl _ _).alloc (Nat.le_refl _) _
  have HW3 : Hid (w2.alloc (.cells #[.bool false, .int .u8 0, .int .u8 0, .int .u8 0, .int .u8 0, .int .u8 0, .int .u8 0, .int .u8 0, .int .u8 0, .int .u8 0, .int .u8 0, .int .u8 0, .int .u8 0, .int .u8 0, .int .u8 0, .int .u8 0, .int .u8 0] 24) = W3) := Lib.hid hW3.symm
  have HB3 := Lib.hid hBW3
  obtain ⟨V, hV⟩ : ∃ V, V = W3.setRow w2.heap.size (adr true ab) := ⟨_, rfl⟩
  have HV := Lib.hid hV.symm
  have hsz : w.heap.size < w2.heap.size := HB2.out.lt
  have HBV : Hid (Blk V w2.heap.size 24 (adr true ab)) := Lib.hid (hV ▸ hBW3.row _)
  have HBR : Hid (Blk V w.heap.size 24 (adr false z16)) := Lib.hid (hV ▸ (HB2.out.kept hbW3).rowOther (by omega) _)
  have HbV : Hid (Below w.heap.size w V) := Lib.hid (hV ▸ below_setRow (bel2 Hb2.out hbW3) (by omega) _)
  have hc0 : V.cell? ⟨w2.heap.size, 0, none⟩ = some (.bool true) := by rw [HBV.out.cell]; rfl
  clear hb2 hW3 hBW3 hbW3 hV
  go_wp2_with ((try rw [HW3.out]); first | (refine wpl_store 24 _ _ rfl w2.heap.size (adr true ab) rfl rfl _ _ HB3.out 17 Tryz.infoAddr L17.out rfl (adr_one _ _) rfl ?_; rw [HV.out]) | (refine wpl_load 24 _ rfl w2.heap.size rfl _ _ _ HBV.out Tryz.underlying24 rfl 17 Tryz.infoAddr L17.out rfl ?_) | (refine wpl_store 24 _ _ rfl w.heap.size (adr true ab) rfl rfl _ _ HBR.out 17 Tryz.infoAddr L17.out rfl (adr_one _ _) rfl ?_))
  exact retA2 rfl w.heap.size rfl _ _ _ (HBR.out.row _) Tryz.underlying24 rfl 17 Tryz.infoAddr L17.out rfl _ rfl ⟨rfl, below_setRow HbV.out (Nat.le_refl _) _⟩

/-- The length of what a text is. -/
theorem parsed_len {l : List UInt8} {s : Bool} {b : List Int} (h : parsed l = some (s, b)) : b.length = 16 := by
  unfold parsed at h
  split at h
  · cases e : six l with
    | none => rw [e] at h; cases h
    | some g =>
      rw [e] at h
      cases h
      have hl : g.length = 8 := by
        unfold six at e
        split at e
        · split at e
          · cases e
            simp
            omega
          · cases e
        · cases e
      rw [List.length_map, by2_length, hl]
  · unfold four at h
    split at h
    · rename_i h4
      cases e : allOf num10 (pieces 46 l) with
      | none => rw [e] at h; cases h
      | some ns =>
        rw [e] at h
        cases h
        have hl := allOf_length num10 _ _ e
        exact rowOf_length _ _ (by omega)
    · cases h

/-- An address, if a text is one. -/
def POpt (r : Option (Bool × List Int)) (w : World) (e : Ending) (w' : World) : Prop :=
  (match r with
   | some (s, b) => e = .returned (.tuple #[.agg (adr s b), .bool true])
   | none => e = .returned (.tuple #[.agg (adr false z16), .bool false])) ∧ Below w.heap.size w w'

theorem paddr_any (s : ByteArray) (hs : s.size ≤ 1000) (ue : TypeId) (pe : Value) (w : World) (hE : Env (.iface ue pe) w) :
    Calls Tryz.prog 74 #[.string s] w (POpt (paddr s.data.toList) w) := by
  have cP : ∀ w, Calls Tryz.prog 107 #[.string s, .string ⟨#[91]⟩] w fun e w' => e = .returned (.bool (Lib.hasPrefix s.data.toList [91])) ∧ w' = w := fun w => Tryz.strings_HasPrefix s ⟨#[91]⟩ w
  have cS : ∀ w, Calls Tryz.prog 108 #[.string s, .string ⟨#[93]⟩] w fun e w' => e = .returned (.bool (Lib.hasSuffix s.data.toList [93])) ∧ w' = w := fun w => Tryz.strings_HasSuffix s ⟨#[93]⟩ w (by omega)
  unfold POpt paddr
  cases hp : Lib.hasPrefix s.data.toList [91] with
  | false =>
    have hb : brk s.data.toList = false := by unfold brk; rw [hp]; rfl
    rw [hp] at cP
    rw [hb, if_neg (by simp)]
    have cA := fun w hE => parse_any s hs (.iface ue pe) w hE
    unfold ParseEnd at cA
    cases hq : parsed s.data.toList with
    | none =>
      rw [hq] at cA
      exact pa_f_none s z16 rfl ue pe _ w hE cP cA
    | some x =>
      obtain ⟨sx, bx⟩ := x
      rw [hq] at cA
      cases sx with
      | false => exact pa_f_hit s bx (parsed_len hq) _ w hE cP cA
      | true => exact pa_f_miss s bx (parsed_len hq) _ w hE cP cA
  | true =>
    rw [hp] at cP
    cases hs' : Lib.hasSuffix s.data.toList [93] with
    | false =>
      have hb : brk s.data.toList = false := by unfold brk; rw [hp, hs']; rfl
      rw [hs'] at cS
      rw [hb, if_neg (by simp)]
      have cA := fun w hE => parse_any s hs (.iface ue pe) w hE
      unfold ParseEnd at cA
      cases hq : parsed s.data.toList with
      | none =>
        rw [hq] at cA
        exact pa_tf_none s z16 rfl ue pe _ w hE cP cS cA
      | some x =>
        obtain ⟨sx, bx⟩ := x
        rw [hq] at cA
        cases sx with
        | false => exact pa_tf_hit s bx (parsed_len hq) _ w hE cP cS cA
        | true => exact pa_tf_miss s bx (parsed_len hq) _ w hE cP cS cA
    | true =>
      have hb : brk s.data.toList = true := by unfold brk; rw [hp, hs']; rfl
      rw [hs'] at cS
      rw [hb, if_pos rfl]
      have h2 : 2 ≤ s.size := by
        rw [Lib.size_eq]
        rw [pre1] at hp
        rw [suf1] at hs'
        generalize s.data.toList = l at hp hs'
        match l, hp, hs' with
        | [], hp, _ => simp at hp
        | [c], hp, hs' =>
          simp at hp hs'
          rw [hp] at hs'
          exact absurd hs' (by decide)
        | _ :: _ :: _, _, _ => simp
      obtain ⟨m, hm⟩ : ∃ m, m = s.size - 1 := ⟨_, rfl⟩
      obtain ⟨t, ht⟩ : ∃ t, t = s.extract 1 m := ⟨_, rfl⟩
      have htl : t.data.toList = inner s.data.toList := by
        rw [ht, hm]
        unfold inner
        rw [← Lib.size_eq]
        simp [List.extract_eq_take_drop, List.drop_take]
      have em : IntKind.i64.wrap ((s.size : Int) - 1) = (m : Int) := by simp only [IntKind.wrap, IntKind.signed, IntKind.bits]; simp; omega
      have hsl : ∀ w, (Instr.sliceAt 9 (.string s) (some (.int .i64 1)) (some (.int .i64 (m : Int))) none).run Tryz.prog w = .ok (.string t) w := fun w => by
        have b1 : (1 : Int) ≤ (m : Int) := by omega
        have b2 : (m : Int) ≤ (s.size : Int) := by omega
        rw [ht]
        simp [Instr.sliceAt, run_underlying Tryz.underlying9, Instr.sliceBounds, go_sem, b1, b2]
      have cA := fun w hE => parse_any t (by rw [Lib.size_eq, htl]; unfold inner; rw [List.length_drop, List.length_take, ← Lib.size_eq]; omega) (.iface ue pe) w hE
      unfold ParseEnd at cA
      rw [htl] at cA
      cases hq : parsed (inner s.data.toList) with
      | none =>
        rw [hq] at cA
        exact pa_tt_none s t z16 rfl ue pe _ w hE cP cS m em hsl cA
      | some x =>
        obtain ⟨sx, bx⟩ := x
        rw [hq] at cA
        cases sx with
        | true => exact pa_tt_hit s t bx (parsed_len hq) _ w hE cP cS m em hsl cA
        | false => exact pa_tt_miss s t bx (parsed_len hq) _ w hE cP cS m em hsl cA
end Go.Proofs.YtnfkgoeocebenaaGreatDoor
