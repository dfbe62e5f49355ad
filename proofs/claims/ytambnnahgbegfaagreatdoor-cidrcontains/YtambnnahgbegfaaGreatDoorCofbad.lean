/-
  cidr.Of, where there is none.
-/
import Derived.Test.YtambnnahgbegfaaGreatDoorCmask
namespace Go.Proofs.YtambnnahgbegfaaGreatDoor
open Go.RowKit

set_option maxRecDepth 100000 in
set_option maxHeartbeats 4000000 in
theorem of_bad1 (s : Bool) (b : List Int) (hl : b.length = 16) (n : Int) (E : Value) (w : World)
    (cR : ∀ w, Calls Tryz.prog 70 #[.agg (adr s b)] w fun e w' => e = .returned (.bool false) ∧ Below w.heap.size w w') (hE : w.cell? ⟨7, 0, none⟩ = some E) :
    Calls Tryz.prog 36 #[.agg (adr s b), .int .i64 n] w fun e w' => e = .returned (.tuple #[.agg (cid false z16 0), E]) ∧ Below w.heap.size w w' := by
  obtain ⟨W0, hW0⟩ : ∃ W, W = w.alloc (.cells (adr s b) 24) := ⟨_, rfl⟩
  obtain ⟨W1, hW1⟩ : ∃ W, W = W0.alloc (.cells (cid false z16 0) 48) := ⟨_, rfl⟩
  have hB0 : Blk W0 w.heap.size 24 (adr s b) := hW0 ▸ Blk.new w _ _
  have hb0 : Below w.heap.size w W0 := hW0 ▸ (Below.refl _ _).alloc (Nat.le_refl _) _
  have hs0 : W0.heap.size = w.heap.size + 1 := by rw [hW0]; simp
  have hb1 : Below W0.heap.size W0 W1 := hW1 ▸ (Below.refl _ _).alloc (Nat.le_refl _) _
  have hB1 : Blk W1 (w.heap.size + 1) 48 (cid false z16 0) := by rw [← hs0]; exact hW1 ▸ Blk.new W0 _ _
  have HW0 := Lib.hid hW0.symm
  have HW1 : Hid (W0.alloc (.cells #[.bool false, .int .u8 0, .int .u8 0, .int .u8 0, .int .u8 0, .int .u8 0, .int .u8 0, .int .u8 0, .int .u8 0, .int .u8 0, .int .u8 0, .int .u8 0, .int .u8 0, .int .u8 0, .int .u8 0, .int .u8 0, .int .u8 0, .int .i64 0] 48) = W1) := Lib.hid hW1.symm
  have HBa : Hid (Blk W1 (w.heap.size) 24 (adr s b)) := Lib.hid (hB0.kept hb1)
  have HBr := Lib.hid hB1
  have Hb0 : Hid (Below w.heap.size w W1) := Lib.hid (bel2 hb0 hb1)
  have LA : Hid (17 = (adr s b).size) := Lib.hid (by rw [adr_size, hl])
  have HE := Lib.hid hE
  have CR := Lib.hid cR
  clear hW0 hW1 hB0 hb0 hb1 hB1 hs0 hl cR hE
  go_enter Tryz.func36, Tryz.ntmps36
  go_upto_region 1 with fail
  rw [HW0.out]
  rw [HW1.out]
  go_wp2_with (refine wpl_load 24 _ rfl w.heap.size rfl _ _ _ HBa.out Tryz.underlying24 rfl 17 Tryz.infoAddr LA.out rfl ?_)
  refine (CR.out W1).mono ?_
  rintro e w1 ⟨rfl, hb1⟩
  have HBa1 := Lib.hid (HBa.out.kept hb1)
  have HBr1 := Lib.hid (HBr.out.kept hb1)
  have Hb1 := Lib.hid (bel2 Hb0.out hb1)
  clear hb1
  go_wp2_with fail
  obtain ⟨wx, hwx⟩ : ∃ wx, wx = w1 := ⟨_, rfl⟩
  have HBx : Hid (Blk wx (w.heap.size + 1) 48 (cid false z16 0)) := Lib.hid (hwx ▸ HBr1.out)
  have Hbx : Hid (Below w.heap.size w wx) := Lib.hid (hwx ▸ Hb1.out)
  rw [← hwx]
  clear hwx
  obtain ⟨V, hV⟩ : ∃ V, V = wx := ⟨_, rfl⟩
  have hB5d : Blk V.drew (w.heap.size + 1) 48 (cid false z16 0) := hV ▸ HBx.out.kept (below_drewN wx 1)
  have HB5d := Lib.hid hB5d
  have Hb5 : Hid (Below w.heap.size w V) := Lib.hid (hV ▸ Hbx.out)
  have hform : V.cell? ⟨7, 0, none⟩ = some E := cell_kept HE.out (Hb5.out)
  have hform2 : (V.drew.setRow (w.heap.size + 1) (cid false z16 0)).cell? ⟨7, 0, none⟩ = some E := cell_kept HE.out (below_setRow (bel2 Hb5.out (below_drewN V 1)) (by omega) _)
  rw [← hV]
  clear hV hB5d
  refine wp_region_any (by kernel_rfl) ?_
  change wpAny _ _ _ _ _ _ _ (World.drew _)
  refine wpAny_take (i := 0) (v := .agg (cid false z16 0)) rfl (by kernel_rfl) (by kernel_rfl) (by kernel_rfl) (fun _ _ _ h => h) (Or.inl ⟨by rfl, fun w => by kernel_rfl⟩) ?_
  refine wpAny_ready (rs := [1, 2]) (by kernel_rfl) (by simp) ?_
  refine AllReady.cons rfl (fun K hK => ?_) (AllReady.cons rfl (fun K hK => ?_) AllReady.nil)
  · refine step_run E V.drew (by go_simp) rfl (hK _ _ ?_)
    refine wpAny_ready (rs := [2]) (by kernel_rfl) (by simp) ?_
    refine AllReady.cons rfl (fun K hK => ?_) AllReady.nil
    refine step_store 48 (.tmp 4) (.tmp 10) rfl (w.heap.size + 1) (cid false z16 0) rfl rfl 48 (cid false z16 0) HB5d.out 18 Tryz.infoCidr rfl rfl (cid_one _ _ _) rfl (hK _ _ ?_)
    refine wpAny_ready (rs := [3]) (by kernel_rfl) (by simp) ?_
    refine AllReady.cons rfl (fun K hK => ?_) AllReady.nil
    refine step_run E _ rfl rfl (hK _ _ ?_)
    refine wpAny_done (by kernel_rfl) ?_ _
    go_wp2
    exact retA2 rfl (w.heap.size + 1) rfl _ _ _ (HB5d.out.row _) Tryz.underlying48 rfl 18 Tryz.infoCidr rfl rfl _ rfl ⟨rfl, below_setRow (bel2 Hb5.out (below_drewN V 1)) (by omega) _⟩
  · refine step_store 48 (.tmp 4) (.tmp 10) rfl (w.heap.size + 1) (cid false z16 0) rfl rfl 48 (cid false z16 0) HB5d.out 18 Tryz.infoCidr rfl rfl (cid_one _ _ _) rfl (hK _ _ ?_)
    refine wpAny_ready (rs := [1]) (by kernel_rfl) (by simp) ?_
    refine AllReady.cons rfl (fun K hK => ?_) AllReady.nil
    refine step_run E (V.drew.setRow (w.heap.size + 1) (cid false z16 0)) (by go_simp) rfl (hK _ _ ?_)
    refine wpAny_ready (rs := [3]) (by kernel_rfl) (by simp) ?_
    refine AllReady.cons rfl (fun K hK => ?_) AllReady.nil
    refine step_run E _ rfl rfl (hK _ _ ?_)
    refine wpAny_done (by kernel_rfl) ?_ _
    go_wp2
    exact retA2 rfl (w.heap.size + 1) rfl _ _ _ (HB5d.out.row _) Tryz.underlying48 rfl 18 Tryz.infoCidr rfl rfl _ rfl ⟨rfl, below_setRow (bel2 Hb5.out (below_drewN V 1)) (by omega) _⟩

set_option maxRecDepth 100000 in
set_option maxHeartbeats 4000000 in
theorem of_neg (s : Bool) (b : List Int) (hl : b.length = 16) (n : Int) (E : Value) (w : World)
    (cR : ∀ w, Calls Tryz.prog 70 #[.agg (adr s b)] w fun e w' => e = .returned (.bool true) ∧ Below w.heap.size w w') (hE : w.cell? ⟨1, 0, none⟩ = some E) (hn : n < 0) :
    Calls Tryz.prog 36 #[.agg (adr s b), .int .i64 n] w fun e w' => e = .returned (.tuple #[.agg (cid false z16 0), E]) ∧ Below w.heap.size w w' := by
  obtain ⟨W0, hW0⟩ : ∃ W, W = w.alloc (.cells (adr s b) 24) := ⟨_, rfl⟩
  obtain ⟨W1, hW1⟩ : ∃ W, W = W0.alloc (.cells (cid false z16 0) 48) := ⟨_, rfl⟩
  have hB0 : Blk W0 w.heap.size 24 (adr s b) := hW0 ▸ Blk.new w _ _
  have hb0 : Below w.heap.size w W0 := hW0 ▸ (Below.refl _ _).alloc (Nat.le_refl _) _
  have hs0 : W0.heap.size = w.heap.size + 1 := by rw [hW0]; simp
  have hb1 : Below W0.heap.size W0 W1 := hW1 ▸ (Below.refl _ _).alloc (Nat.le_refl _) _
  have hB1 : Blk W1 (w.heap.size + 1) 48 (cid false z16 0) := by rw [← hs0]; exact hW1 ▸ Blk.new W0 _ _
  have HW0 := Lib.hid hW0.symm
  have HW1 : Hid (W0.alloc (.cells #[.bool false, .int .u8 0, .int .u8 0, .int .u8 0, .int .u8 0, .int .u8 0, .int .u8 0, .int .u8 0, .int .u8 0, .int .u8 0, .int .u8 0, .int .u8 0, .int .u8 0, .int .u8 0, .int .u8 0, .int .u8 0, .int .u8 0, .int .i64 0] 48) = W1) := Lib.hid hW1.symm
  have HBa : Hid (Blk W1 (w.heap.size) 24 (adr s b)) := Lib.hid (hB0.kept hb1)
  have HBr := Lib.hid hB1
  have Hb0 : Hid (Below w.heap.size w W1) := Lib.hid (bel2 hb0 hb1)
  have LA : Hid (17 = (adr s b).size) := Lib.hid (by rw [adr_size, hl])
  have HE := Lib.hid hE
  have CR := Lib.hid cR
  clear hW0 hW1 hB0 hb0 hb1 hB1 hs0 hl cR hE
  go_enter Tryz.func36, Tryz.ntmps36
  go_upto_region 1 with fail
  rw [HW0.out]
  rw [HW1.out]
  go_wp2_with (refine wpl_load 24 _ rfl w.heap.size rfl _ _ _ HBa.out Tryz.underlying24 rfl 17 Tryz.infoAddr LA.out rfl ?_)
  refine (CR.out W1).mono ?_
  rintro e w1 ⟨rfl, hb1⟩
  have HBa1 := Lib.hid (HBa.out.kept hb1)
  have HBr1 := Lib.hid (HBr.out.kept hb1)
  have Hb1 := Lib.hid (bel2 Hb0.out hb1)
  clear hb1
  go_wp2_with fail
  obtain ⟨wx, hwx⟩ : ∃ wx, wx = w1 := ⟨_, rfl⟩
  have HBx : Hid (Blk wx (w.heap.size + 1) 48 (cid false z16 0)) := Lib.hid (hwx ▸ HBr1.out)
  have Hbx : Hid (Below w.heap.size w wx) := Lib.hid (hwx ▸ Hb1.out)
  rw [← hwx]
  clear hwx
  obtain ⟨V, hV⟩ : ∃ V, V = wx := ⟨_, rfl⟩
  have hB5d : Blk V.drew (w.heap.size + 1) 48 (cid false z16 0) := hV ▸ HBx.out.kept (below_drewN wx 1)
  have HB5d := Lib.hid hB5d
  have Hb5 : Hid (Below w.heap.size w V) := Lib.hid (hV ▸ Hbx.out)
  have hform : V.cell? ⟨1, 0, none⟩ = some E := cell_kept HE.out (Hb5.out)
  have hform2 : (V.drew.setRow (w.heap.size + 1) (cid false z16 0)).cell? ⟨1, 0, none⟩ = some E := cell_kept HE.out (below_setRow (bel2 Hb5.out (below_drewN V 1)) (by omega) _)
  rw [← hV]
  clear hV hB5d
  refine wp_region_any (by kernel_rfl) ?_
  change wpAny _ _ _ _ _ _ _ (World.drew _)
  refine wpAny_take (i := 0) (v := .agg (cid false z16 0)) rfl (by kernel_rfl) (by kernel_rfl) (by kernel_rfl) (fun _ _ _ h => h) (Or.inl ⟨by rfl, fun w => by kernel_rfl⟩) ?_
  refine wpAny_ready (rs := [1, 2]) (by kernel_rfl) (by simp) ?_
  refine AllReady.cons rfl (fun K hK => ?_) (AllReady.cons rfl (fun K hK => ?_) AllReady.nil)
  · refine step_run E V.drew (by go_simp) rfl (hK _ _ ?_)
    refine wpAny_ready (rs := [2]) (by kernel_rfl) (by simp) ?_
    refine AllReady.cons rfl (fun K hK => ?_) AllReady.nil
    refine step_store 48 (.tmp 4) (.tmp 20) rfl (w.heap.size + 1) (cid false z16 0) rfl rfl 48 (cid false z16 0) HB5d.out 18 Tryz.infoCidr rfl rfl (cid_one _ _ _) rfl (hK _ _ ?_)
    refine wpAny_ready (rs := [3]) (by kernel_rfl) (by simp) ?_
    refine AllReady.cons rfl (fun K hK => ?_) AllReady.nil
    refine step_run E _ rfl rfl (hK _ _ ?_)
    refine wpAny_done (by kernel_rfl) ?_ _
    go_wp2
    exact retA2 rfl (w.heap.size + 1) rfl _ _ _ (HB5d.out.row _) Tryz.underlying48 rfl 18 Tryz.infoCidr rfl rfl _ rfl ⟨rfl, below_setRow (bel2 Hb5.out (below_drewN V 1)) (by omega) _⟩
  · refine step_store 48 (.tmp 4) (.tmp 20) rfl (w.heap.size + 1) (cid false z16 0) rfl rfl 48 (cid false z16 0) HB5d.out 18 Tryz.infoCidr rfl rfl (cid_one _ _ _) rfl (hK _ _ ?_)
    refine wpAny_ready (rs := [1]) (by kernel_rfl) (by simp) ?_
    refine AllReady.cons rfl (fun K hK => ?_) AllReady.nil
    refine step_run E (V.drew.setRow (w.heap.size + 1) (cid false z16 0)) (by go_simp) rfl (hK _ _ ?_)
    refine wpAny_ready (rs := [3]) (by kernel_rfl) (by simp) ?_
    refine AllReady.cons rfl (fun K hK => ?_) AllReady.nil
    refine step_run E _ rfl rfl (hK _ _ ?_)
    refine wpAny_done (by kernel_rfl) ?_ _
    go_wp2
    exact retA2 rfl (w.heap.size + 1) rfl _ _ _ (HB5d.out.row _) Tryz.underlying48 rfl 18 Tryz.infoCidr rfl rfl _ rfl ⟨rfl, below_setRow (bel2 Hb5.out (below_drewN V 1)) (by omega) _⟩

set_option maxRecDepth 100000 in
set_option maxHeartbeats 4000000 in
theorem of_big (s : Bool) (b : List Int) (hl : b.length = 16) (n : Int) (E : Value) (w : World)
    (cR : ∀ w, Calls Tryz.prog 70 #[.agg (adr s b)] w fun e w' => e = .returned (.bool true) ∧ Below w.heap.size w w')
    (m : Nat) (cB : ∀ w, Calls Tryz.prog 71 #[.agg (adr s b)] w fun e w' => e = .returned (.int .i64 (m : Int)) ∧ Below w.heap.size w w') (hE : w.cell? ⟨1, 0, none⟩ = some E) (hn : 0 ≤ n) (hm : (m : Int) < n) :
    Calls Tryz.prog 36 #[.agg (adr s b), .int .i64 n] w fun e w' => e = .returned (.tuple #[.agg (cid false z16 0), E]) ∧ Below w.heap.size w w' := by
  obtain ⟨W0, hW0⟩ : ∃ W, W = w.alloc (.cells (adr s b) 24) := ⟨_, rfl⟩
  obtain ⟨W1, hW1⟩ : ∃ W, W = W0.alloc (.cells (cid false z16 0) 48) := ⟨_, rfl⟩
  have hB0 : Blk W0 w.heap.size 24 (adr s b) := hW0 ▸ Blk.new w _ _
  have hb0 : Below w.heap.size w W0 := hW0 ▸ (Below.refl _ _).alloc (Nat.le_refl _) _
  have hs0 : W0.heap.size = w.heap.size + 1 := by rw [hW0]; simp
  have hb1 : Below W0.heap.size W0 W1 := hW1 ▸ (Below.refl _ _).alloc (Nat.le_refl _) _
  have hB1 : Blk W1 (w.heap.size + 1) 48 (cid false z16 0) := by rw [← hs0]; exact hW1 ▸ Blk.new W0 _ _
  have HW0 := Lib.hid hW0.symm
  have HW1 : Hid (W0.alloc (.cells #[.bool false, .int .u8 0, .int .u8 0, .int .u8 0, .int .u8 0, .int .u8 0, .int .u8 0, .int .u8 0, .int .u8 0, .int .u8 0, .int .u8 0, .int .u8 0, .int .u8 0, .int .u8 0, .int .u8 0, .int .u8 0, .int .u8 0, .int .i64 0] 48) = W1) := Lib.hid hW1.symm
  have HBa : Hid (Blk W1 (w.heap.size) 24 (adr s b)) := Lib.hid (hB0.kept hb1)
  have HBr := Lib.hid hB1
  have Hb0 : Hid (Below w.heap.size w W1) := Lib.hid (bel2 hb0 hb1)
  have LA : Hid (17 = (adr s b).size) := Lib.hid (by rw [adr_size, hl])
  have HE := Lib.hid hE
  have CR := Lib.hid cR
  have CB := Lib.hid cB
  have q1 : decide (n < 0) = false := decide_eq_false (by omega)
  have q2 : decide (n > (m : Int)) = true := decide_eq_true (by omega)
  have q3 : decide ((m : Int) < n) = true := decide_eq_true (by omega)
  clear hW0 hW1 hB0 hb0 hb1 hB1 hs0 hl cR hE cB
  go_enter Tryz.func36, Tryz.ntmps36
  go_upto_region 1 with fail
  rw [HW0.out]
  rw [HW1.out]
  go_wp2_with (refine wpl_load 24 _ rfl w.heap.size rfl _ _ _ HBa.out Tryz.underlying24 rfl 17 Tryz.infoAddr LA.out rfl ?_)
  refine (CR.out W1).mono ?_
  rintro e w1 ⟨rfl, hb1⟩
  have HBa1 := Lib.hid (HBa.out.kept hb1)
  have HBr1 := Lib.hid (HBr.out.kept hb1)
  have Hb1 := Lib.hid (bel2 Hb0.out hb1)
  clear hb1
  go_wp2_with (refine wpl_load 24 _ rfl w.heap.size rfl _ _ _ HBa1.out Tryz.underlying24 rfl 17 Tryz.infoAddr LA.out rfl ?_)
  refine (CB.out w1).mono ?_
  rintro e w2 ⟨rfl, hb2⟩
  have HBr2 := Lib.hid (HBr1.out.kept hb2)
  have Hb2 := Lib.hid (bel2 Hb1.out hb2)
  clear hb2
  go_wp2_with fail
  obtain ⟨wx, hwx⟩ : ∃ wx, wx = w2 := ⟨_, rfl⟩
  have HBx : Hid (Blk wx (w.heap.size + 1) 48 (cid false z16 0)) := Lib.hid (hwx ▸ HBr2.out)
  have Hbx : Hid (Below w.heap.size w wx) := Lib.hid (hwx ▸ Hb2.out)
  rw [← hwx]
  clear hwx
  obtain ⟨V, hV⟩ : ∃ V, V = wx := ⟨_, rfl⟩
  have hB5d : Blk V.drew (w.heap.size + 1) 48 (cid false z16 0) := hV ▸ HBx.out.kept (below_drewN wx 1)
  have HB5d := Lib.hid hB5d
  have Hb5 : Hid (Below w.heap.size w V) := Lib.hid (hV ▸ Hbx.out)
  have hform : V.cell? ⟨1, 0, none⟩ = some E := cell_kept HE.out (Hb5.out)
  have hform2 : (V.drew.setRow (w.heap.size + 1) (cid false z16 0)).cell? ⟨1, 0, none⟩ = some E := cell_kept HE.out (below_setRow (bel2 Hb5.out (below_drewN V 1)) (by omega) _)
  rw [← hV]
  clear hV hB5d
  refine wp_region_any (by kernel_rfl) ?_
  change wpAny _ _ _ _ _ _ _ (World.drew _)
  refine wpAny_take (i := 0) (v := .agg (cid false z16 0)) rfl (by kernel_rfl) (by kernel_rfl) (by kernel_rfl) (fun _ _ _ h => h) (Or.inl ⟨by rfl, fun w => by kernel_rfl⟩) ?_
  refine wpAny_ready (rs := [1, 2]) (by kernel_rfl) (by simp) ?_
  refine AllReady.cons rfl (fun K hK => ?_) (AllReady.cons rfl (fun K hK => ?_) AllReady.nil)
  · refine step_run E V.drew (by go_simp) rfl (hK _ _ ?_)
    refine wpAny_ready (rs := [2]) (by kernel_rfl) (by simp) ?_
    refine AllReady.cons rfl (fun K hK => ?_) AllReady.nil
    refine step_store 48 (.tmp 4) (.tmp 20) rfl (w.heap.size + 1) (cid false z16 0) rfl rfl 48 (cid false z16 0) HB5d.out 18 Tryz.infoCidr rfl rfl (cid_one _ _ _) rfl (hK _ _ ?_)
    refine wpAny_ready (rs := [3]) (by kernel_rfl) (by simp) ?_
    refine AllReady.cons rfl (fun K hK => ?_) AllReady.nil
    refine step_run E _ rfl rfl (hK _ _ ?_)
    refine wpAny_done (by kernel_rfl) ?_ _
    go_wp2
    exact retA2 rfl (w.heap.size + 1) rfl _ _ _ (HB5d.out.row _) Tryz.underlying48 rfl 18 Tryz.infoCidr rfl rfl _ rfl ⟨rfl, below_setRow (bel2 Hb5.out (below_drewN V 1)) (by omega) _⟩
  · refine step_store 48 (.tmp 4) (.tmp 20) rfl (w.heap.size + 1) (cid false z16 0) rfl rfl 48 (cid false z16 0) HB5d.out 18 Tryz.infoCidr rfl rfl (cid_one _ _ _) rfl (hK _ _ ?_)
    refine wpAny_ready (rs := [1]) (by kernel_rfl) (by simp) ?_
    refine AllReady.cons rfl (fun K hK => ?_) AllReady.nil
    refine step_run E (V.drew.setRow (w.heap.size + 1) (cid false z16 0)) (by go_simp) rfl (hK _ _ ?_)
    refine wpAny_ready (rs := [3]) (by kernel_rfl) (by simp) ?_
    refine AllReady.cons rfl (fun K hK => ?_) AllReady.nil
    refine step_run E _ rfl rfl (hK _ _ ?_)
    refine wpAny_done (by kernel_rfl) ?_ _
    go_wp2
    exact retA2 rfl (w.heap.size + 1) rfl _ _ _ (HB5d.out.row _) Tryz.underlying48 rfl 18 Tryz.infoCidr rfl rfl _ rfl ⟨rfl, below_setRow (bel2 Hb5.out (below_drewN V 1)) (by omega) _⟩

/-- What cidr.Of answers: the cidr of an address's first bits, or one of two errors. -/
def ofC (s : Bool) (B : List Nat) (n : Int) (EA ER : Value) : Array Value :=
  if (s || flat (ints B)) = true then (if 0 ≤ n ∧ n ≤ wid s then #[.agg (cid s (ints (cutTo B n 16)) n), .nilIface] else #[.agg (cid false z16 0), ER]) else #[.agg (cid false z16 0), EA]

theorem addrRight_any (s : Bool) (b : List Int) (hl : b.length = 16) (w : World) : Calls Tryz.prog 70 #[.agg (adr s b)] w fun e w' => e = .returned (.bool (s || flat b)) ∧ Below w.heap.size w w' := by
  cases s with
  | true => exact (right_six b w).mono fun e w' h => ⟨by rw [h.1]; rfl, h.2⟩
  | false => exact (right_four b hl w).mono fun e w' h => ⟨by rw [h.1]; rfl, h.2⟩

/-- What package-level variables cidr.Of reads. -/
structure Env3 (EA ER : Value) (w : World) : Prop where
  adr : w.cell? ⟨7, 0, none⟩ = some EA
  rng : w.cell? ⟨1, 0, none⟩ = some ER
theorem Env3.kept {EA ER : Value} {w w' : World} (h : Env3 EA ER w) (hb : Below w.heap.size w w') : Env3 EA ER w' := ⟨cell_kept h.adr hb, cell_kept h.rng hb⟩

theorem of_any (s : Bool) (B : List Nat) (hl : B.length = 16) (hB : ∀ x ∈ B, x < 256) (n : Int) (EA ER : Value) (w : World) (hE : Env3 EA ER w) :
    Calls Tryz.prog 36 #[.agg (adr s (ints B)), .int .i64 n] w fun e w' => e = .returned (.tuple (ofC s B n EA ER)) ∧ Below w.heap.size w w' := by
  have hli : (ints B).length = 16 := by rw [ints_length, hl]
  have cR := addrRight_any s (ints B) hli
  have cB := bits_any s (ints B) hli
  have hwid : (if s then (128 : Int) else 32) = (wid s : Int) := by cases s <;> rfl
  rw [hwid] at cB
  unfold ofC
  cases hr : (s || flat (ints B)) with
  | false =>
    rw [hr] at cR
    rw [if_neg (by simp)]
    exact of_bad1 s (ints B) hli n EA w cR hE.adr
  | true =>
    rw [hr] at cR
    rw [if_pos rfl]
    by_cases h0 : 0 ≤ n
    · by_cases h1 : n ≤ wid s
      · rw [if_pos ⟨h0, h1⟩]
        obtain ⟨N, rfl⟩ : ∃ N : Nat, n = N := ⟨n.toNat, by omega⟩
        exact of_good s B hl hB N (by omega) w cR
      · rw [if_neg (by omega)]
        exact of_big s (ints B) hli n ER w cR (wid s) cB hE.rng h0 (by omega)
    · rw [if_neg (by omega)]
      exact of_neg s (ints B) hli n ER w cR hE.rng (by omega)
end Go.Proofs.YtambnnahgbegfaaGreatDoor
