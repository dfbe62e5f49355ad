/-
  The walk of the law AddrOrders.
-/
import Derived.Test.YtdkmckmfllfegaaDoorHeld
import Derived.Test.YtdkmckmfllfegaaDoorAlive
import Derived.Test.YtdkmckmfllfegaaDoorCmpr
namespace Go.Proofs.YtdkmckmfllfegaaDoor
open Go.RowKit

set_option maxRecDepth 100000 in
set_option maxHeartbeats 4000000 in
theorem orders_any (sa sb sc : Bool) (x y z : List Nat) (hx : x.length = 16) (hy : y.length = 16) (hz : z.length = 16) (lx : ∀ n ∈ x, n < 256) (ly : ∀ n ∈ y, n < 256) (lz : ∀ n ∈ z, n < 256) (E : Value) (w : World) (hE : Env E w) :
    Calls Tryd.prog 5 #[.agg (adr sa (ints x)), .agg (adr sb (ints y)), .agg (adr sc (ints z))] w fun e w' => e = .returned (.bool true) ∧ Below w.heap.size w w' := by
  obtain ⟨W3, hW3⟩ : ∃ W, W = ((w.alloc (.cells (adr sa (ints x)) 25)).alloc (.cells (adr sb (ints y)) 25)).alloc (.cells (adr sc (ints z)) 25) := ⟨_, rfl⟩
  have hA : Blk W3 w.heap.size 25 (adr sa (ints x)) := hW3 ▸ ((Blk.new w _ _).alloc _).alloc _
  have hB : Blk W3 (w.heap.size + 1) 25 (adr sb (ints y)) := by
    have := (Blk.new (w.alloc (.cells (adr sa (ints x)) 25)) 25 (adr sb (ints y))).alloc (.cells (adr sc (ints z)) 25)
    rw [hW3]
    simpa using this
  have hC : Blk W3 (w.heap.size + 1 + 1) 25 (adr sc (ints z)) := by
    have := Blk.new ((w.alloc (.cells (adr sa (ints x)) 25)).alloc (.cells (adr sb (ints y)) 25)) 25 (adr sc (ints z))
    rw [hW3]
    simpa using this
  have hb3 : Below w.heap.size w W3 := hW3 ▸ (((Below.refl _ _).alloc (Nat.le_refl _) _).alloc (by simp) _).alloc (by simp; omega) _
  have HW := Lib.hid hW3.symm
  have HA := Lib.hid hA
  have HB := Lib.hid hB
  have HC := Lib.hid hC
  have HE := Lib.hid (hE.kept hb3)
  have LA : Hid (17 = (adr sa (ints x)).size) := Lib.hid (by rw [adr_size, ints_length, hx])
  have LB : Hid (17 = (adr sb (ints y)).size) := Lib.hid (by rw [adr_size, ints_length, hy])
  have LC : Hid (17 = (adr sc (ints z)).size) := Lib.hid (by rw [adr_size, ints_length, hz])
  obtain ⟨u, hu⟩ : ∃ u, u = cmpA sa sb x y := ⟨_, rfl⟩
  obtain ⟨v, hv⟩ : ∃ v, v = cmpA sb sc y z := ⟨_, rfl⟩
  obtain ⟨r, hr⟩ : ∃ r, r = cmpA sa sc x z := ⟨_, rfl⟩
  have cab := fun w => compare_any sa sb x y hx hy lx ly w
  have cbc := fun w => compare_any sb sc y z hy hz ly lz w
  have cba := fun w => compare_any sb sa y x hy hx ly lx w
  have caa := fun w => compare_any sa sa x x hx hx lx lx w
  have cac := fun w => compare_any sa sc x z hx hz lx lz w
  have rab := fun w => refCompare_any sa sb x y hx hy w
  rw [cmpA_swap sa sb x y] at cba
  rw [cmpA_self] at caa
  rw [← hu] at cab cba rab
  rw [← hv] at cbc
  rw [← hr] at cac
  have hu1 : -1 ≤ u := by rw [hu]; exact (cmpA_range sa sb x y).1
  have hu2 : u ≤ 1 := by rw [hu]; exact (cmpA_range sa sb x y).2
  have htr : u ≤ 0 → v ≤ 0 → r ≤ 0 := fun h1 h2 => by
    rw [hr]
    exact cmpA_trans sa sb sc x y z (hu ▸ h1) (hv ▸ h2)
  have Cab := Lib.hid cab
  have Cbc := Lib.hid cbc
  have Cba := Lib.hid cba
  have Caa := Lib.hid caa
  have Cac := Lib.hid cac
  have Rab := Lib.hid rab
  have HT := Lib.hid htr
  clear hA hB hC hW3 hE cab cbc cba caa cac rab htr hu hv hr hx hy hz lx ly lz
  go_enter Tryd.func5, Tryd.ntmps5
  go_wp2_with fail
  rw [HW.out]
  refine (alive_any E W3 HE.out).mono ?_
  rintro e w1 ⟨rfl, hb1⟩
  have HA1 := Lib.hid (HA.out.kept hb1)
  have HB1 := Lib.hid (HB.out.kept hb1)
  have HC1 := Lib.hid (HC.out.kept hb1)
  go_wp2_with fail
  have hS : Blk w1.drew w.heap.size 25 (adr sa (ints x)) ∧ Blk w1.drew (w.heap.size + 1) 25 (adr sb (ints y)) ∧ Blk w1.drew (w.heap.size + 1 + 1) 25 (adr sc (ints z)) ∧ Below w.heap.size w w1.drew := ⟨HA1.out, HB1.out, HC1.out, bel2 (bel2 hb3 hb1) (below_drewN w1 1)⟩
  refine wp_region_held_drew (S := fun w' => Blk w' w.heap.size 25 (adr sa (ints x)) ∧ Blk w' (w.heap.size + 1) 25 (adr sb (ints y)) ∧ Blk w' (w.heap.size + 1 + 1) 25 (adr sc (ints z)) ∧ Below w.heap.size w w') (by kernel_rfl) hS (fun hS => ?_)
  refine wpAnyH_take (i := 0) (v := .agg (adr sa (ints x))) rfl (by kernel_rfl) (by kernel_rfl) (by kernel_rfl) (fun _ _ _ h => h) (yields_load 25 _ rfl w.heap.size rfl _ _ _ (fun w h => h.1) Tryd.underlying25 rfl 17 Tryd.infoAddr LA.out rfl) hS ?_
  refine wpAnyH_take (i := 1) (v := .agg (adr sb (ints y))) rfl (by kernel_rfl) (by kernel_rfl) (by kernel_rfl) (fun _ _ _ h => h) (yields_load 25 _ rfl (w.heap.size + 1) rfl _ _ _ (fun w h => h.2.1) Tryd.underlying25 rfl 17 Tryd.infoAddr LB.out rfl) hS ?_
  refine wpAnyH_take (i := 3) (v := .agg (adr sb (ints y))) rfl (by kernel_rfl) (by kernel_rfl) (by kernel_rfl) (fun _ _ _ h => h) (yields_load 25 _ rfl (w.heap.size + 1) rfl _ _ _ (fun w h => h.2.1) Tryd.underlying25 rfl 17 Tryd.infoAddr LB.out rfl) hS ?_
  refine wpAnyH_take (i := 4) (v := .agg (adr sc (ints z))) rfl (by kernel_rfl) (by kernel_rfl) (by kernel_rfl) (fun _ _ _ h => h) (yields_load 25 _ rfl (w.heap.size + 1 + 1) rfl _ _ _ (fun w h => h.2.2.1) Tryd.underlying25 rfl 17 Tryd.infoAddr LC.out rfl) hS ?_
  refine wpAnyH_ready (rs := [2]) (by kernel_rfl) (by simp) ?_
  refine AllReadyH.cons rfl (fun K' hK => ?_) AllReadyH.nil
  refine step_call 15 #[.agg (adr sa (ints x)), .agg (adr sb (ints y))] (by kernel_rfl) rfl (.int .i64 u) (Cab.out _) (fun w2 hb2 => hK.out _ _ ⟨hS.1.kept hb2, hS.2.1.kept hb2, hS.2.2.1.kept hb2, bel2 hS.2.2.2 hb2⟩ (fun hS => ?_))
  refine wpAnyH_ready (rs := [5]) (by kernel_rfl) (by simp) ?_
  refine AllReadyH.cons rfl (fun K' hK => ?_) AllReadyH.nil
  refine step_call 15 #[.agg (adr sb (ints y)), .agg (adr sc (ints z))] (by kernel_rfl) rfl (.int .i64 v) (Cbc.out _) (fun w3 hb3 => hK.out _ _ ⟨hS.1.kept hb3, hS.2.1.kept hb3, hS.2.2.1.kept hb3, bel2 hS.2.2.2 hb3⟩ (fun hS => ?_))
  refine wpAnyH_ready (rs := [6]) (by kernel_rfl) (by simp) ?_
  refine AllReadyH.cons rfl (fun K' hK => ?_) AllReadyH.nil
  refine step_run (.int .i64 u) w3 rfl rfl (hK.out _ _ hS (fun _ => ?_))
  refine wpAnyH_ready (rs := [7]) (by kernel_rfl) (by simp) ?_
  refine AllReadyH.cons rfl (fun K' hK => ?_) AllReadyH.nil
  refine step_run (.int .i64 v) w3 rfl rfl (hK.out _ _ hS (fun _ => ?_))
  refine wpAnyH_done (by kernel_rfl) ?_ _
  obtain ⟨hA3, hB3, hC3, hb3'⟩ := hS
  have HA3 := Lib.hid hA3
  have HB3 := Lib.hid hB3
  have HC3 := Lib.hid hC3
  have Hb3 := Lib.hid hb3'
  clear hA3 hB3 hC3 hb3' HA HB HC HA1 HB1 HC1
  go_wp2_with (first | (refine wpl_load 25 _ rfl w.heap.size rfl _ _ _ HA3.out Tryd.underlying25 rfl 17 Tryd.infoAddr LA.out rfl ?_) | (refine wpl_load 25 _ rfl (w.heap.size + 1) rfl _ _ _ HB3.out Tryd.underlying25 rfl 17 Tryd.infoAddr LB.out rfl ?_) | (refine wpl_load 25 _ rfl (w.heap.size + 1 + 1) rfl _ _ _ HC3.out Tryd.underlying25 rfl 17 Tryd.infoAddr LC.out rfl ?_))
  refine (Rab.out w3).mono ?_
  rintro e w4 ⟨rfl, hb4⟩
  have HA4 := Lib.hid (HA3.out.kept hb4)
  have HB4 := Lib.hid (HB3.out.kept hb4)
  have HC4 := Lib.hid (HC3.out.kept hb4)
  have Hb4 := Lib.hid (bel2 Hb3.out hb4)
  go_wp2_with (first | (refine wpl_load 25 _ rfl w.heap.size rfl _ _ _ HA4.out Tryd.underlying25 rfl 17 Tryd.infoAddr LA.out rfl ?_) | (refine wpl_load 25 _ rfl (w.heap.size + 1) rfl _ _ _ HB4.out Tryd.underlying25 rfl 17 Tryd.infoAddr LB.out rfl ?_) | (refine wpl_load 25 _ rfl (w.heap.size + 1 + 1) rfl _ _ _ HC4.out Tryd.underlying25 rfl 17 Tryd.infoAddr LC.out rfl ?_))
  refine (Cba.out w4).mono ?_
  rintro e w5 ⟨rfl, hb5⟩
  have HA5 := Lib.hid (HA4.out.kept hb5)
  have HB5 := Lib.hid (HB4.out.kept hb5)
  have HC5 := Lib.hid (HC4.out.kept hb5)
  have Hb5 := Lib.hid (bel2 Hb4.out hb5)
  go_wp2_with (first | (refine wpl_load 25 _ rfl w.heap.size rfl _ _ _ HA5.out Tryd.underlying25 rfl 17 Tryd.infoAddr LA.out rfl ?_) | (refine wpl_load 25 _ rfl (w.heap.size + 1) rfl _ _ _ HB5.out Tryd.underlying25 rfl 17 Tryd.infoAddr LB.out rfl ?_) | (refine wpl_load 25 _ rfl (w.heap.size + 1 + 1) rfl _ _ _ HC5.out Tryd.underlying25 rfl 17 Tryd.infoAddr LC.out rfl ?_))
  refine (Caa.out w5).mono ?_
  rintro e w6 ⟨rfl, hb6⟩
  have HA6 := Lib.hid (HA5.out.kept hb6)
  have HB6 := Lib.hid (HB5.out.kept hb6)
  have HC6 := Lib.hid (HC5.out.kept hb6)
  have Hb6 := Lib.hid (bel2 Hb5.out hb6)
  by_cases h1 : u ≤ 0
  · by_cases h2 : v ≤ 0
    · have h3 := HT.out h1 h2
      go_wp2_with (first | (refine wpl_load 25 _ rfl w.heap.size rfl _ _ _ HA6.out Tryd.underlying25 rfl 17 Tryd.infoAddr LA.out rfl ?_) | (refine wpl_load 25 _ rfl (w.heap.size + 1) rfl _ _ _ HB6.out Tryd.underlying25 rfl 17 Tryd.infoAddr LB.out rfl ?_) | (refine wpl_load 25 _ rfl (w.heap.size + 1 + 1) rfl _ _ _ HC6.out Tryd.underlying25 rfl 17 Tryd.infoAddr LC.out rfl ?_))
      refine (Cac.out w6).mono ?_
      rintro e w7 ⟨rfl, hb7⟩
      go_wp2
      go_ret
      exact ⟨rfl, bel2 Hb6.out hb7⟩
    · have h2' : decide (v ≤ 0) = false := by simp; omega
      go_wp2
      go_ret
      exact ⟨rfl, Hb6.out⟩
  · have h1' : decide (u ≤ 0) = false := by simp; omega
    go_wp2
    go_ret
    exact ⟨rfl, Hb6.out⟩
end Go.Proofs.YtdkmckmfllfegaaDoor
