/-
  The walk of addr.Read, over what its callees do.
-/
import Derived.Test.YtnfkgoeocebenaaGreatDoorKfrom
namespace Go.Proofs.YtnfkgoeocebenaaGreatDoor
open Go.RowKit

set_option maxRecDepth 100000 in
set_option maxHeartbeats 2000000 in
theorem aread_four (c : Nat) (s : Bool) (b : List Int) (hl : b.length = 16) (w : World) {R1 : World → Prop} {R2 : Value → World → Prop} {R3 : World → Prop}
    (cN : Calls Tryz.prog 51 #[.pointer (some ⟨c, 0, none⟩), .int .i64 1] (w.alloc (.cells (adr false z16) 24)) fun e w1 => e = .returned (.int .i64 4) ∧ R1 w1)
    (cB : ∀ w1, R1 w1 → Calls Tryz.prog 53 #[.pointer (some ⟨c, 0, none⟩), .int .i64 4] w1 fun e w2 => ∃ v, e = .returned v ∧ R2 v w2)
    (cG : ∀ v w2, R2 v w2 → Calls Tryz.prog 14 #[v] w2 fun e w3 => ∃ E, e = .returned (.tuple #[.agg (adr s b), E]) ∧ R3 w3)
    (hR : ∀ w3, R3 w3 → Blk w3 w.heap.size 24 (adr false z16)) :
    Calls Tryz.prog 19 #[.pointer (some ⟨c, 0, none⟩)] w fun e w' => e = .returned (.agg (adr s b)) ∧ ∃ w3 V, R3 w3 ∧ Below w3.heap.size w3 V ∧ w' = V.setRow w.heap.size (adr s b) := by
  obtain ⟨W0, hW0⟩ : ∃ W, W = w.alloc (.cells (adr false z16) 24) := ⟨_, rfl⟩
  have HW0 : Hid (w.alloc (.cells #[.bool false, .int .u8 0, .int .u8 0, .int .u8 0, .int .u8 0, .int .u8 0, .int .u8 0, .int .u8 0, .int .u8 0, .int .u8 0, .int .u8 0, .int .u8 0, .int .u8 0, .int .u8 0, .int .u8 0, .int .u8 0, .int .u8 0] 24) = W0) := Lib.hid hW0.symm
  rw [← hW0] at cN
  have CN := Lib.hid cN
  have CB := Lib.hid cB
  have CG := Lib.hid cG
  have HR := Lib.hid hR
  have L17 : Hid (17 = (adr s b).size) := Lib.hid (by rw [adr_size, hl])
  clear hW0 cN cB cG hR hl
  go_enter Tryz.func19, Tryz.ntmps19
  go_wp2_with fail
  rw [HW0.out]
  refine CN.out.mono ?_
  rintro e w1 ⟨rfl, r1⟩
  go_wp2_with fail
  refine (CB.out w1 r1).mono ?_
  rintro e w2 ⟨v, rfl, r2⟩
  go_wp2_with fail
  refine (CG.out v w2 r2).mono ?_
  rintro e w3 ⟨E, rfl, r3⟩
  have HB3 := Lib.hid (HR.out w3 r3)
  obtain ⟨W4, hW4⟩ : ∃ W, W = w3.alloc (.cells (adr false z16) 24) := ⟨_, rfl⟩
  have hB4 : Blk W4 w3.heap.size 24 (adr false z16) := hW4 ▸ Blk.new w3 _ _
  have hb4 : Below w3.heap.size w3 W4 := hW4 ▸ (Below.refl _ _).alloc (Nat.le_refl _) _
  have HW4 : Hid (w3.alloc (.cells #[.bool false, .int .u8 0, .int .u8 0, .int .u8 0, .int .u8 0, .int .u8 0, .int .u8 0, .int .u8 0, .int .u8 0, .int .u8 0, .int .u8 0, .int .u8 0, .int .u8 0, .int .u8 0, .int .u8 0, .int .u8 0, .int .u8 0] 24) = W4) := Lib.hid hW4.symm
  obtain ⟨V, hV⟩ : ∃ V, V = W4.setRow w3.heap.size (adr s b) := ⟨_, rfl⟩
  have HV := Lib.hid hV.symm
  have hbV : Below w3.heap.size w3 V := hV ▸ below_setRow hb4 (Nat.le_refl _) _
  have HBV : Hid (Blk V w3.heap.size 24 (adr s b)) := Lib.hid (hV ▸ hB4.row _)
  have HBR : Hid (Blk V w.heap.size 24 (adr false z16)) := Lib.hid (HB3.out.kept hbV)
  have HB4 := Lib.hid hB4
  have HbV := Lib.hid hbV
  clear hW4 hB4 hb4 hV hbV
  go_wp2_with ((try rw [HW4.out]); first | (refine wpl_store 24 _ _ rfl w3.heap.size (adr s b) rfl rfl _ _ HB4.out 17 Tryz.infoAddr L17.out rfl (adr_one _ _) rfl ?_; rw [HV.out]) | (refine wpl_load 24 _ rfl w3.heap.size rfl _ _ _ HBV.out Tryz.underlying24 rfl 17 Tryz.infoAddr L17.out rfl ?_) | (refine wpl_store 24 _ _ rfl w.heap.size (adr s b) rfl rfl _ _ HBR.out 17 Tryz.infoAddr L17.out rfl (adr_one _ _) rfl ?_))
  exact retA rfl w.heap.size rfl _ _ _ (HBR.out.row _) Tryz.underlying24 rfl 17 Tryz.infoAddr L17.out rfl ⟨rfl, w3, V, r3, HbV.out, rfl⟩

set_option maxRecDepth 100000 in
set_option maxHeartbeats 2000000 in
theorem aread_six (c : Nat) (s : Bool) (b : List Int) (hl : b.length = 16) (w : World) {R1 : World → Prop} {R2 : Value → World → Prop} {R3 : World → Prop}
    (cN : Calls Tryz.prog 51 #[.pointer (some ⟨c, 0, none⟩), .int .i64 1] (w.alloc (.cells (adr false z16) 24)) fun e w1 => e = .returned (.int .i64 6) ∧ R1 w1)
    (cB : ∀ w1, R1 w1 → Calls Tryz.prog 53 #[.pointer (some ⟨c, 0, none⟩), .int .i64 16] w1 fun e w2 => ∃ v, e = .returned v ∧ R2 v w2)
    (cG : ∀ v w2, R2 v w2 → Calls Tryz.prog 14 #[v] w2 fun e w3 => ∃ E, e = .returned (.tuple #[.agg (adr s b), E]) ∧ R3 w3)
    (hR : ∀ w3, R3 w3 → Blk w3 w.heap.size 24 (adr false z16)) :
    Calls Tryz.prog 19 #[.pointer (some ⟨c, 0, none⟩)] w fun e w' => e = .returned (.agg (adr s b)) ∧ ∃ w3 V, R3 w3 ∧ Below w3.heap.size w3 V ∧ w' = V.setRow w.heap.size (adr s b) := by
  obtain ⟨W0, hW0⟩ : ∃ W, W = w.alloc (.cells (adr false z16) 24) := ⟨_, rfl⟩
  have HW0 : Hid (w.alloc (.cells #[.bool false, .int .u8 0, .int .u8 0, .int .u8 0, .int .u8 0, .int .u8 0, .int .u8 0, .int .u8 0, .int .u8 0, .int .u8 0, .int .u8 0, .int .u8 0, .int .u8 0, .int .u8 0, .int .u8 0, .int .u8 0, .int .u8 0] 24) = W0) := Lib.hid hW0.symm
  rw [← hW0] at cN
  have CN := Lib.hid cN
  have CB := Lib.hid cB
  have CG := Lib.hid cG
  have HR := Lib.hid hR
  have L17 : Hid (17 = (adr s b).size) := Lib.hid (by rw [adr_size, hl])
  clear hW0 cN cB cG hR hl
  go_enter Tryz.func19, Tryz.ntmps19
  go_wp2_with fail
  rw [HW0.out]
  refine CN.out.mono ?_
  rintro e w1 ⟨rfl, r1⟩
  go_wp2_with fail
  refine (CB.out w1 r1).mono ?_
  rintro e w2 ⟨v, rfl, r2⟩
  go_wp2_with fail
  refine (CG.out v w2 r2).mono ?_
  rintro e w3 ⟨E, rfl, r3⟩
  have HB3 := Lib.hid (HR.out w3 r3)
  obtain ⟨W4, hW4⟩ : ∃ W, W = w3.alloc (.cells (adr false z16) 24) := ⟨_, rfl⟩
  have hB4 : Blk W4 w3.heap.size 24 (adr false z16) := hW4 ▸ Blk.new w3 _ _
  have hb4 : Below w3.heap.size w3 W4 := hW4 ▸ (Below.refl _ _).alloc (Nat.le_refl _) _
  have HW4 : Hid (w3.alloc (.cells #[.bool false, .int .u8 0, .int .u8 0, .int .u8 0, .int .u8 0, .int .u8 0, .int .u8 0, .int .u8 0, .int .u8 0, .int .u8 0, .int .u8 0, .int .u8 0, .int .u8 0, .int .u8 0, .int .u8 0, .int .u8 0, .int .u8 0] 24) = W4) := Lib.hid hW4.symm
  obtain ⟨V, hV⟩ : ∃ V, V = W4.setRow w3.heap.size (adr s b) := ⟨_, rfl⟩
  have HV := Lib.hid hV.symm
  have hbV : Below w3.heap.size w3 V := hV ▸ below_setRow hb4 (Nat.le_refl _) _
  have HBV : Hid (Blk V w3.heap.size 24 (adr s b)) := Lib.hid (hV ▸ hB4.row _)
  have HBR : Hid (Blk V w.heap.size 24 (adr false z16)) := Lib.hid (HB3.out.kept hbV)
  have HB4 := Lib.hid hB4
  have HbV := Lib.hid hbV
  clear hW4 hB4 hb4 hV hbV
  go_wp2_with ((try rw [HW4.out]); first | (refine wpl_store 24 _ _ rfl w3.heap.size (adr s b) rfl rfl _ _ HB4.out 17 Tryz.infoAddr L17.out rfl (adr_one _ _) rfl ?_; rw [HV.out]) | (refine wpl_load 24 _ rfl w3.heap.size rfl _ _ _ HBV.out Tryz.underlying24 rfl 17 Tryz.infoAddr L17.out rfl ?_) | (refine wpl_store 24 _ _ rfl w.heap.size (adr s b) rfl rfl _ _ HBR.out 17 Tryz.infoAddr L17.out rfl (adr_one _ _) rfl ?_))
  exact retA rfl w.heap.size rfl _ _ _ (HBR.out.row _) Tryz.underlying24 rfl 17 Tryz.infoAddr L17.out rfl ⟨rfl, w3, V, r3, HbV.out, rfl⟩

set_option maxRecDepth 100000 in
set_option maxHeartbeats 2000000 in
theorem aread_none (c : Nat) (s : Bool) (b : List Int) (hl : b.length = 16) (m : Int) (h4 : (m == 4) = false) (h6 : (m == 6) = false) (w : World) {R1 : World → Prop} {R2 : Value → World → Prop} {R3 : World → Prop} {RF : World → Prop} (EK : Value)
    (cN : Calls Tryz.prog 51 #[.pointer (some ⟨c, 0, none⟩), .int .i64 1] (w.alloc (.cells (adr false z16) 24)) fun e w1 => e = .returned (.int .i64 m) ∧ R1 w1)
    (hK : ∀ w1, R1 w1 → w1.cell? ⟨6, 0, none⟩ = some EK)
    (cF : ∀ w1, R1 w1 → Calls Tryz.prog 52 #[.pointer (some ⟨c, 0, none⟩), EK] w1 fun e w2 => (∃ r, e = .returned r) ∧ RF w2)
    (cB : ∀ w1, RF w1 → Calls Tryz.prog 53 #[.pointer (some ⟨c, 0, none⟩), .int .i64 0] w1 fun e w2 => ∃ v, e = .returned v ∧ R2 v w2)
    (cG : ∀ v w2, R2 v w2 → Calls Tryz.prog 14 #[v] w2 fun e w3 => ∃ E, e = .returned (.tuple #[.agg (adr s b), E]) ∧ R3 w3)
    (hR : ∀ w3, R3 w3 → Blk w3 w.heap.size 24 (adr false z16)) :
    Calls Tryz.prog 19 #[.pointer (some ⟨c, 0, none⟩)] w fun e w' => e = .returned (.agg (adr s b)) ∧ ∃ w3 V, R3 w3 ∧ Below w3.heap.size w3 V ∧ w' = V.setRow w.heap.size (adr s b) := by
  obtain ⟨W0, hW0⟩ : ∃ W, W = w.alloc (.cells (adr false z16) 24) := ⟨_, rfl⟩
  have HW0 : Hid (w.alloc (.cells #[.bool false, .int .u8 0, .int .u8 0, .int .u8 0, .int .u8 0, .int .u8 0, .int .u8 0, .int .u8 0, .int .u8 0, .int .u8 0, .int .u8 0, .int .u8 0, .int .u8 0, .int .u8 0, .int .u8 0, .int .u8 0, .int .u8 0] 24) = W0) := Lib.hid hW0.symm
  rw [← hW0] at cN
  have CN := Lib.hid cN
  have CB := Lib.hid cB
  have CG := Lib.hid cG
  have HR := Lib.hid hR
  have L17 : Hid (17 = (adr s b).size) := Lib.hid (by rw [adr_size, hl])
  have CF := Lib.hid cF
  have HK := Lib.hid hK
  clear hW0 cN cB cG hR hl cF hK
  go_enter Tryz.func19, Tryz.ntmps19
  go_wp2_with fail
  rw [HW0.out]
  refine CN.out.mono ?_
  rintro e w1 ⟨rfl, r1⟩
  have hk := HK.out w1 r1
  go_wp2_with fail
  refine (CF.out w1 r1).mono ?_
  rintro e w1' ⟨⟨r, rfl⟩, rF⟩
  go_wp2_with fail
  refine (CB.out w1' rF).mono ?_
  rintro e w2 ⟨v, rfl, r2⟩
  go_wp2_with fail
  refine (CG.out v w2 r2).mono ?_
  rintro e w3 ⟨E, rfl, r3⟩
  have HB3 := Lib.hid (HR.out w3 r3)
  obtain ⟨W4, hW4⟩ : ∃ W, W = w3.alloc (.cells (adr false z16) 24) := ⟨_, rfl⟩
  have hB4 : Blk W4 w3.heap.size 24 (adr false z16) := hW4 ▸ Blk.new w3 _ _
  have hb4 : Below w3.heap.size w3 W4 := hW4 ▸ (Below.refl _ _).alloc (Nat.le_refl _) _
  have HW4 : Hid (w3.alloc (.cells #[.bool false, .int .u8 0, .int .u8 0, .int .u8 0, .int .u8 0, .int .u8 0, .int .u8 0, .int .u8 0, .int .u8 0, .int .u8 0, .int .u8 0, .int .u8 0, .int .u8 0, .int .u8 0, .int .u8 0, .int .u8 0, .int .u8 0] 24) = W4) := Lib.hid hW4.symm
  obtain ⟨V, hV⟩ : ∃ V, V = W4.setRow w3.heap.size (adr s b) := ⟨_, rfl⟩
  have HV := Lib.hid hV.symm
  have hbV : Below w3.heap.size w3 V := hV ▸ below_setRow hb4 (Nat.le_refl _) _
  have HBV : Hid (Blk V w3.heap.size 24 (adr s b)) := Lib.hid (hV ▸ hB4.row _)
  have HBR : Hid (Blk V w.heap.size 24 (adr false z16)) := Lib.hid (HB3.out.kept hbV)
  have HB4 := Lib.hid hB4
  have HbV := Lib.hid hbV
  clear hW4 hB4 hb4 hV hbV
  go_wp2_with ((try rw [HW4.out]); first | (refine wpl_store 24 _ _ rfl w3.heap.size (adr s b) rfl rfl _ _ HB4.out 17 Tryz.infoAddr L17.out rfl (adr_one _ _) rfl ?_; rw [HV.out]) | (refine wpl_load 24 _ rfl w3.heap.size rfl _ _ _ HBV.out Tryz.underlying24 rfl 17 Tryz.infoAddr L17.out rfl ?_) | (refine wpl_store 24 _ _ rfl w.heap.size (adr s b) rfl rfl _ _ HBR.out 17 Tryz.infoAddr L17.out rfl (adr_one _ _) rfl ?_))
  exact retA rfl w.heap.size rfl _ _ _ (HBR.out.row _) Tryz.underlying24 rfl 17 Tryz.infoAddr L17.out rfl ⟨rfl, w3, V, r3, HbV.out, rfl⟩

end Go.Proofs.YtnfkgoeocebenaaGreatDoor
