/-
  The text of a point: ports.Point, formatAddr, Format, and the document's.
-/
import Derived.Test.YtnfkgoeocebenaaGreatDoorPnum
import Derived.Test.YtnfkgoeocebenaaGreatDoorPparse
import Derived.Test.YtnfkgoeocebenaaGreatDoorPref
namespace Go.Proofs.YtnfkgoeocebenaaGreatDoor
open Go.RowKit

set_option maxRecDepth 100000 in
set_option maxHeartbeats 1000000 in
theorem ppoint_any (s : Bool) (b : List Int) (hl : b.length = 16) (n : Int) (R : Bool) (w : World)
    (cR : ∀ w, Calls Tryz.prog 80 #[.agg (adr s b)] w fun e w' => e = .returned (.bool R) ∧ Below w.heap.size w w') :
    Calls Tryz.prog 39 #[.agg (pnt s b n)] w fun e w' => e = .returned (.bool (R && rp n)) ∧ Below w.heap.size w w' := by
  obtain ⟨W0, hW0⟩ : ∃ W, W = w.alloc (.cells (pnt s b n) 60) := ⟨_, rfl⟩
  have hB0 : Blk W0 w.heap.size 60 (pnt s b n) := hW0 ▸ Blk.new w _ _
  have hb0 : Below w.heap.size w W0 := hW0 ▸ (Below.refl _ _).alloc (Nat.le_refl _) _
  have HW0 := Lib.hid hW0.symm
  have HB0 := Lib.hid hB0
  have Hb0 := Lib.hid hb0
  have LB := Lib.hid hl
  have L18 : Hid (18 = (pnt s b n).size) := Lib.hid (by rw [pnt_size, hl])
  have CR := Lib.hid cR
  clear hW0 hB0 hb0 hl cR
  have hcp : ∀ w', Below W0.heap.size W0 w' → w'.cell? ⟨w.heap.size, 17, none⟩ = some (.int .i64 n) := fun w' hb => pnt_portCell (HB0.out.kept hb) LB.out
  have HCP := Lib.hid hcp
  clear hcp
  go_enter Tryz.func39, Tryz.ntmps39
  go_upto_region 1 with fail
  rw [HW0.out]
  go_wp2_with (refine wpl_load_padr _ rfl w.heap.size rfl s b n HB0.out LB.out rfl ?_)
  refine (CR.out W0).mono ?_
  rintro e w1 ⟨rfl, hb1⟩
  have hc := HCP.out w1 hb1
  cases R with
  | false =>
    go_wp2
    go_ret
    exact ⟨rfl, bel2 Hb0.out hb1⟩
  | true =>
    go_wp2_with fail
    refine (pright_any n w1).mono ?_
    rintro e w2 ⟨rfl, rfl⟩
    go_wp2
    go_ret
    exact ⟨rfl, bel2 Hb0.out hb1⟩

set_option maxRecDepth 100000 in
set_option maxHeartbeats 1000000 in
theorem rppoint_any (s : Bool) (b : List Int) (hl : b.length = 16) (n : Int) (R : Bool) (w : World)
    (cR : ∀ w, Calls Tryz.prog 16 #[.agg (adr s b)] w fun e w' => e = .returned (.bool R) ∧ Below w.heap.size w w') :
    Calls Tryz.prog 40 #[.agg (pnt s b n)] w fun e w' => e = .returned (.bool (R && rp n)) ∧ Below w.heap.size w w' := by
  obtain ⟨W0, hW0⟩ : ∃ W, W = w.alloc (.cells (pnt s b n) 60) := ⟨_, rfl⟩
  have hB0 : Blk W0 w.heap.size 60 (pnt s b n) := hW0 ▸ Blk.new w _ _
  have hb0 : Below w.heap.size w W0 := hW0 ▸ (Below.refl _ _).alloc (Nat.le_refl _) _
  have HW0 := Lib.hid hW0.symm
  have HB0 := Lib.hid hB0
  have Hb0 := Lib.hid hb0
  have LB := Lib.hid hl
  have L18 : Hid (18 = (pnt s b n).size) := Lib.hid (by rw [pnt_size, hl])
  have CR := Lib.hid cR
  clear hW0 hB0 hb0 hl cR
  have hcp : ∀ w', Below W0.heap.size W0 w' → w'.cell? ⟨w.heap.size, 17, none⟩ = some (.int .i64 n) := fun w' hb => pnt_portCell (HB0.out.kept hb) LB.out
  have HCP := Lib.hid hcp
  clear hcp
  go_enter Tryz.func40, Tryz.ntmps40
  go_upto_region 1 with fail
  rw [HW0.out]
  go_wp2_with (refine wpl_load_padr _ rfl w.heap.size rfl s b n HB0.out LB.out rfl ?_)
  refine (CR.out W0).mono ?_
  rintro e w1 ⟨rfl, hb1⟩
  have hc := HCP.out w1 hb1
  cases R with
  | false =>
    go_wp2
    go_ret
    exact ⟨rfl, bel2 Hb0.out hb1⟩
  | true =>
    go_wp2_with fail
    refine (rright4_any n w1).mono ?_
    rintro e w2 ⟨rfl, rfl⟩
    go_wp2
    go_ret
    exact ⟨rfl, bel2 Hb0.out hb1⟩

set_option maxRecDepth 100000 in
set_option maxHeartbeats 1000000 in
theorem pfa_four (b : List Int) (hl : b.length = 16) (T : ByteArray) (E : Value) (w : World) (hE : Env E w)
    (cF : ∀ w, Env E w → Calls Tryz.prog 47 #[.agg (adr false b)] w fun e w' => e = .returned (.string T) ∧ Below w.heap.size w w') :
    Calls Tryz.prog 78 #[.agg (adr false b)] w fun e w' => e = .returned (.string T) ∧ Below w.heap.size w w' := by
  obtain ⟨W0, hW0⟩ : ∃ W, W = w.alloc (.cells (adr false b) 24) := ⟨_, rfl⟩
  have hB0 : Blk W0 w.heap.size 24 (adr false b) := hW0 ▸ Blk.new w _ _
  have hb0 : Below w.heap.size w W0 := hW0 ▸ (Below.refl _ _).alloc (Nat.le_refl _) _
  have HW0 := Lib.hid hW0.symm
  have HB0 := Lib.hid hB0
  have Hb0 := Lib.hid hb0
  have h0 : W0.cell? ⟨w.heap.size, 0, none⟩ = some (.bool false) := by rw [hB0.cell]; rfl
  have L17 : Hid (17 = (adr false b).size) := Lib.hid (by rw [adr_size, hl])
  have CF := Lib.hid (cF W0 (hE.kept hb0))
  clear hW0 hB0 hb0 hl hE cF
  go_enter Tryz.func78, Tryz.ntmps78
  go_upto_region 1 with fail
  rw [HW0.out]
  go_wp2_with (refine wpl_load 24 _ rfl w.heap.size rfl _ _ _ HB0.out Tryz.underlying24 rfl 17 Tryz.infoAddr L17.out rfl ?_)
  refine CF.out.mono ?_
  rintro e w1 ⟨rfl, hb1⟩
  go_wp2
  go_ret
  exact ⟨rfl, bel2 Hb0.out hb1⟩

set_option maxRecDepth 100000 in
set_option maxHeartbeats 1000000 in
theorem pfa_six (b : List Int) (hl : b.length = 16) (T T1 T2 : ByteArray) (E : Value) (w : World) (hE : Env E w)
    (h1 : ∀ w', (Op.stringOp .add ⟨#[91]⟩ T).run Tryz.prog w' = .ok (.string T1) w') (h2 : ∀ w', (Op.stringOp .add T1 ⟨#[93]⟩).run Tryz.prog w' = .ok (.string T2) w')
    (cF : ∀ w, Env E w → Calls Tryz.prog 47 #[.agg (adr true b)] w fun e w' => e = .returned (.string T) ∧ Below w.heap.size w w') :
    Calls Tryz.prog 78 #[.agg (adr true b)] w fun e w' => e = .returned (.string T2) ∧ Below w.heap.size w w' := by
  obtain ⟨W0, hW0⟩ : ∃ W, W = w.alloc (.cells (adr true b) 24) := ⟨_, rfl⟩
  have hB0 : Blk W0 w.heap.size 24 (adr true b) := hW0 ▸ Blk.new w _ _
  have hb0 : Below w.heap.size w W0 := hW0 ▸ (Below.refl _ _).alloc (Nat.le_refl _) _
  have HW0 := Lib.hid hW0.symm
  have HB0 := Lib.hid hB0
  have Hb0 := Lib.hid hb0
  have h0 : W0.cell? ⟨w.heap.size, 0, none⟩ = some (.bool true) := by rw [hB0.cell]; rfl
  have L17 : Hid (17 = (adr true b).size) := Lib.hid (by rw [adr_size, hl])
  have CF := Lib.hid (cF W0 (hE.kept hb0))
  clear hW0 hB0 hb0 hl hE cF
  go_enter Tryz.func78, Tryz.ntmps78
  go_upto_region 1 with fail
  rw [HW0.out]
  go_wp2_with (refine wpl_load 24 _ rfl w.heap.size rfl _ _ _ HB0.out Tryz.underlying24 rfl 17 Tryz.infoAddr L17.out rfl ?_)
  refine CF.out.mono ?_
  rintro e w1 ⟨rfl, hb1⟩
  go_wp2
  go_ret
  exact ⟨rfl, bel2 Hb0.out hb1⟩

set_option maxRecDepth 100000 in
set_option maxHeartbeats 1000000 in
theorem pformat_bad (s : Bool) (b : List Int) (hl : b.length = 16) (n : Int) (w : World)
    (cR : ∀ w, Calls Tryz.prog 39 #[.agg (pnt s b n)] w fun e w' => e = .returned (.bool false) ∧ Below w.heap.size w w') :
    Calls Tryz.prog 38 #[.agg (pnt s b n)] w fun e w' => e = .returned (.string ⟨#[]⟩) ∧ Below w.heap.size w w' := by
  obtain ⟨W0, hW0⟩ : ∃ W, W = w.alloc (.cells (pnt s b n) 60) := ⟨_, rfl⟩
  have hB0 : Blk W0 w.heap.size 60 (pnt s b n) := hW0 ▸ Blk.new w _ _
  have hb0 : Below w.heap.size w W0 := hW0 ▸ (Below.refl _ _).alloc (Nat.le_refl _) _
  have HW0 := Lib.hid hW0.symm
  have HB0 := Lib.hid hB0
  have Hb0 := Lib.hid hb0
  have LB := Lib.hid hl
  have L18 : Hid (18 = (pnt s b n).size) := Lib.hid (by rw [pnt_size, hl])
  have CR := Lib.hid cR
  clear hW0 hB0 hb0 hl cR
  go_enter Tryz.func38, Tryz.ntmps38
  go_upto_region 1 with fail
  rw [HW0.out]
  go_wp2_with (refine wpl_load 60 _ rfl w.heap.size rfl _ _ _ HB0.out Tryz.underlying60 rfl 18 Tryz.infoPoint L18.out rfl ?_)
  refine (CR.out W0).mono ?_
  rintro e w1 ⟨rfl, hb1⟩
  go_wp2
  go_ret
  exact ⟨rfl, bel2 Hb0.out hb1⟩

set_option maxRecDepth 100000 in
set_option maxHeartbeats 1000000 in
theorem rpformat_bad (s : Bool) (b : List Int) (hl : b.length = 16) (n : Int) (w : World)
    (cR : ∀ w, Calls Tryz.prog 40 #[.agg (pnt s b n)] w fun e w' => e = .returned (.bool false) ∧ Below w.heap.size w w') :
    Calls Tryz.prog 41 #[.agg (pnt s b n)] w fun e w' => e = .returned (.string ⟨#[]⟩) ∧ Below w.heap.size w w' := by
  obtain ⟨W0, hW0⟩ : ∃ W, W = w.alloc (.cells (pnt s b n) 60) := ⟨_, rfl⟩
  have hB0 : Blk W0 w.heap.size 60 (pnt s b n) := hW0 ▸ Blk.new w _ _
  have hb0 : Below w.heap.size w W0 := hW0 ▸ (Below.refl _ _).alloc (Nat.le_refl _) _
  have HW0 := Lib.hid hW0.symm
  have HB0 := Lib.hid hB0
  have Hb0 := Lib.hid hb0
  have LB := Lib.hid hl
  have L18 : Hid (18 = (pnt s b n).size) := Lib.hid (by rw [pnt_size, hl])
  have CR := Lib.hid cR
  clear hW0 hB0 hb0 hl cR
  go_enter Tryz.func41, Tryz.ntmps41
  go_upto_region 1 with fail
  rw [HW0.out]
  go_wp2_with (refine wpl_load 60 _ rfl w.heap.size rfl _ _ _ HB0.out Tryz.underlying60 rfl 18 Tryz.infoPoint L18.out rfl ?_)
  refine (CR.out W0).mono ?_
  rintro e w1 ⟨rfl, hb1⟩
  go_wp2
  go_ret
  exact ⟨rfl, bel2 Hb0.out hb1⟩

set_option linter.unusedSimpArgs false in
set_option maxRecDepth 100000 in
set_option maxHeartbeats 4000000 in
theorem pformat_good (s : Bool) (b : List Int) (hl : b.length = 16) (n : Int) (T T1 D T2 : ByteArray) (E : Value) (w : World) (hE : Env E w)
    (cR : ∀ w, Calls Tryz.prog 39 #[.agg (pnt s b n)] w fun e w' => e = .returned (.bool true) ∧ Below w.heap.size w w')
    (cF : ∀ w, Env E w → Calls Tryz.prog 78 #[.agg (adr s b)] w fun e w' => e = .returned (.string T) ∧ Below w.heap.size w w')
    (cI : ∀ w, Env E w → Calls Tryz.prog 79 #[.int .i64 n] w fun e w' => e = .returned (.string D) ∧ Below w.heap.size w w')
    (h1 : ∀ w', (Op.stringOp .add T ⟨#[58]⟩).run Tryz.prog w' = .ok (.string T1) w')
    (h2 : ∀ w', (Op.stringOp .add T1 D).run Tryz.prog w' = .ok (.string T2) w')
    : Calls Tryz.prog 38 #[.agg (pnt s b n)] w fun e w' => e = .returned (.string T2) ∧ Below w.heap.size w w' := by
  obtain ⟨W0, hW0⟩ : ∃ W, W = w.alloc (.cells (pnt s b n) 60) := ⟨_, rfl⟩
  have hB0 : Blk W0 w.heap.size 60 (pnt s b n) := hW0 ▸ Blk.new w _ _
  have hb0 : Below w.heap.size w W0 := hW0 ▸ (Below.refl _ _).alloc (Nat.le_refl _) _
  have HW0 := Lib.hid hW0.symm
  have HB0 := Lib.hid hB0
  have Hb0 := Lib.hid hb0
  have LB := Lib.hid hl
  have L18 : Hid (18 = (pnt s b n).size) := Lib.hid (by rw [pnt_size, hl])
  have HE := Lib.hid hE
  have CR := Lib.hid cR
  have CF := Lib.hid cF
  have CI := Lib.hid cI
  clear hW0 hB0 hb0 hl hE cR cF cI
  go_enter Tryz.func38, Tryz.ntmps38
  go_upto_region 1 with fail
  rw [HW0.out]
  go_wp2_with (refine wpl_load 60 _ rfl w.heap.size rfl _ _ _ HB0.out Tryz.underlying60 rfl 18 Tryz.infoPoint L18.out rfl ?_)
  refine (CR.out W0).mono ?_
  rintro e w1 ⟨rfl, hb1⟩
  have hS0 : Blk w1.drew (w.heap.size) 60 (pnt s b n) ∧ Env E w1.drew ∧ Below w.heap.size w w1.drew := ⟨(HB0.out.kept hb1).kept (below_drewN w1 1), (HE.out.kept (bel2 Hb0.out hb1)).kept (below_drewN w1 1), bel2 (bel2 Hb0.out hb1) (below_drewN w1 1)⟩
  clear hb1
  go_wp2_with fail
  refine wp_region_held_drew (S := fun w' => Blk w' (w.heap.size) 60 (pnt s b n) ∧ Env E w' ∧ Below w.heap.size w w') (by kernel_rfl) hS0 (fun hS => ?_)
  change wpAnyH _ _ _ _ _ 9 #[false, false, false, false, false, false, false, false, false] _ _
  refine wpAnyH_take (i := 0) (v := .pointer (some ⟨w.heap.size, 0, none⟩)) rfl (by kernel_rfl) (by kernel_rfl) (by kernel_rfl) (fun _ _ _ h => h) (.inl ⟨by kernel_rfl, fun w _ => by kernel_rfl⟩) hS ?_
  simp only [List.getElem_toArray, List.getElem_cons_zero, List.getElem_cons_succ, Act.put, List.setIfInBounds_toArray, List.set_cons_zero, List.set_cons_succ]
  refine wpAnyH_take (i := 1) (v := .agg (adr s b)) rfl (by kernel_rfl) (by kernel_rfl) (by kernel_rfl) (fun _ _ _ h => h) (yields_padr (.tmp 6) rfl (w.heap.size) (by kernel_rfl) s b n (fun w h => h.1) LB.out (by kernel_rfl)) hS ?_
  simp only [List.getElem_toArray, List.getElem_cons_zero, List.getElem_cons_succ, Act.put, List.setIfInBounds_toArray, List.set_cons_zero, List.set_cons_succ]
  refine wpAnyH_take (i := 4) (v := .pointer (some ⟨w.heap.size, 17, none⟩)) rfl (by kernel_rfl) (by kernel_rfl) (by kernel_rfl) (fun _ _ _ h => h) (.inl ⟨by kernel_rfl, fun w _ => by kernel_rfl⟩) hS ?_
  simp only [List.getElem_toArray, List.getElem_cons_zero, List.getElem_cons_succ, Act.put, List.setIfInBounds_toArray, List.set_cons_zero, List.set_cons_succ]
  refine wpAnyH_take (i := 5) (v := .int .i64 n) rfl (by kernel_rfl) (by kernel_rfl) (by kernel_rfl) (fun _ _ _ h => h) (yields_cell (.tmp 10) rfl (w.heap.size) 17 (by kernel_rfl) n (fun w h => pnt_portCell h.1 LB.out) (by kernel_rfl)) hS ?_
  simp only [List.getElem_toArray, List.getElem_cons_zero, List.getElem_cons_succ, Act.put, List.setIfInBounds_toArray, List.set_cons_zero, List.set_cons_succ]
  refine wpAnyH_ready (rs := [2]) (by kernel_rfl) (by simp) ?_
  refine AllReadyH.cons rfl (fun K' hK => ?_) AllReadyH.nil
  refine step_call 78 #[.agg (adr s b)] (by kernel_rfl) (by kernel_rfl) (.string T) (CF.out _ hS.2.1) (fun v1 hv1 => hK.out _ _ (⟨hS.1.kept hv1, hS.2.1.kept hv1, bel2 hS.2.2 hv1⟩) (fun hS => ?_))
  simp only [List.getElem_toArray, List.getElem_cons_zero, List.getElem_cons_succ, Act.put, List.setIfInBounds_toArray, List.set_cons_zero, List.set_cons_succ]
  refine wpAnyH_take (i := 3) (v := .string T1) rfl (by kernel_rfl) (by kernel_rfl) (by kernel_rfl) (fun _ _ _ h => h) (.inl ⟨by kernel_rfl, fun w _ => exec_sadd 9 9 (.tmp 8) (.const (.string ⟨#[58]⟩)) rfl T ⟨#[58]⟩ T1 (by kernel_rfl) (by kernel_rfl) (h1 w)⟩) hS ?_
  simp only [List.getElem_toArray, List.getElem_cons_zero, List.getElem_cons_succ, Act.put, List.setIfInBounds_toArray, List.set_cons_zero, List.set_cons_succ]
  refine wpAnyH_ready (rs := [6]) (by kernel_rfl) (by simp) ?_
  refine AllReadyH.cons rfl (fun K' hK => ?_) AllReadyH.nil
  refine step_call 79 #[.int .i64 n] (by kernel_rfl) (by kernel_rfl) (.string D) (CI.out _ hS.2.1) (fun v2 hv2 => hK.out _ _ (⟨hS.1.kept hv2, hS.2.1.kept hv2, bel2 hS.2.2 hv2⟩) (fun hS => ?_))
  simp only [List.getElem_toArray, List.getElem_cons_zero, List.getElem_cons_succ, Act.put, List.setIfInBounds_toArray, List.set_cons_zero, List.set_cons_succ]
  refine wpAnyH_take (i := 7) (v := .string T2) rfl (by kernel_rfl) (by kernel_rfl) (by kernel_rfl) (fun _ _ _ h => h) (.inl ⟨by kernel_rfl, fun w _ => exec_sadd 9 9 (.tmp 9) (.tmp 12) rfl T1 D T2 (by kernel_rfl) (by kernel_rfl) (h2 w)⟩) hS ?_
  simp only [List.getElem_toArray, List.getElem_cons_zero, List.getElem_cons_succ, Act.put, List.setIfInBounds_toArray, List.set_cons_zero, List.set_cons_succ]
  refine wpAnyH_take (i := 8) (v := .string T2) rfl (by kernel_rfl) (by kernel_rfl) (by kernel_rfl) (fun _ _ _ h => h) (.inl ⟨by kernel_rfl, fun w _ => by kernel_rfl⟩) hS ?_
  simp only [List.getElem_toArray, List.getElem_cons_zero, List.getElem_cons_succ, Act.put, List.setIfInBounds_toArray, List.set_cons_zero, List.set_cons_succ]
  refine wpAnyH_done (by kernel_rfl) ?_ _
  obtain ⟨_, _, hbE⟩ := hS
  go_wp2
  go_ret
  exact ⟨rfl, hbE⟩

set_option linter.unusedSimpArgs false in
set_option maxRecDepth 100000 in
set_option maxHeartbeats 4000000 in
theorem rpformat_six (b : List Int) (hl : b.length = 16) (n : Int) (T T1 T2 D T3 : ByteArray) (w : World)
    (cR : ∀ w, Calls Tryz.prog 40 #[.agg (pnt true b n)] w fun e w' => e = .returned (.bool true) ∧ Below w.heap.size w w')
    (cF : ∀ w, Calls Tryz.prog 82 #[.agg (adr true b)] w fun e w' => e = .returned (.string T) ∧ Below w.heap.size w w')
    (cI : ∀ w, Calls Tryz.prog 83 #[.int .i64 n] w fun e w' => e = .returned (.string D) ∧ Below w.heap.size w w')
    (h1 : ∀ w', (Op.stringOp .add ⟨#[91]⟩ T).run Tryz.prog w' = .ok (.string T1) w')
    (h2 : ∀ w', (Op.stringOp .add T1 ⟨#[93, 58]⟩).run Tryz.prog w' = .ok (.string T2) w')
    (h3 : ∀ w', (Op.stringOp .add T2 D).run Tryz.prog w' = .ok (.string T3) w')
    : Calls Tryz.prog 41 #[.agg (pnt true b n)] w fun e w' => e = .returned (.string T3) ∧ Below w.heap.size w w' := by
  obtain ⟨W0, hW0⟩ : ∃ W, W = w.alloc (.cells (pnt true b n) 60) := ⟨_, rfl⟩
  have hB0 : Blk W0 w.heap.size 60 (pnt true b n) := hW0 ▸ Blk.new w _ _
  have hb0 : Below w.heap.size w W0 := hW0 ▸ (Below.refl _ _).alloc (Nat.le_refl _) _
  have HW0 := Lib.hid hW0.symm
  have HB0 := Lib.hid hB0
  have Hb0 := Lib.hid hb0
  have LB := Lib.hid hl
  have L18 : Hid (18 = (pnt true b n).size) := Lib.hid (by rw [pnt_size, hl])
  have CR := Lib.hid cR
  have CF := Lib.hid cF
  have CI := Lib.hid cI
  clear hW0 hB0 hb0 hl cR cF cI
  go_enter Tryz.func41, Tryz.ntmps41
  go_upto_region 1 with fail
  rw [HW0.out]
  go_wp2_with (refine wpl_load 60 _ rfl w.heap.size rfl _ _ _ HB0.out Tryz.underlying60 rfl 18 Tryz.infoPoint L18.out rfl ?_)
  refine (CR.out W0).mono ?_
  rintro e w1 ⟨rfl, hb1⟩
  have h0 : w1.cell? ⟨w.heap.size, 0, none⟩ = some (.bool true) := by rw [(HB0.out.kept hb1).cell]; rfl
  have hS0 : Blk w1.drew (w.heap.size) 60 (pnt true b n) ∧ Below w.heap.size w w1.drew := ⟨(HB0.out.kept hb1).kept (below_drewN w1 1), bel2 (bel2 Hb0.out hb1) (below_drewN w1 1)⟩
  clear hb1
  go_wp2_with fail
  refine wp_region_held_drew (S := fun w' => Blk w' (w.heap.size) 60 (pnt true b n) ∧ Below w.heap.size w w') (by kernel_rfl) hS0 (fun hS => ?_)
  change wpAnyH _ _ _ _ _ 10 #[false, false, false, false, false, false, false, false, false, false] _ _
  refine wpAnyH_take (i := 0) (v := .pointer (some ⟨w.heap.size, 0, none⟩)) rfl (by kernel_rfl) (by kernel_rfl) (by kernel_rfl) (fun _ _ _ h => h) (.inl ⟨by kernel_rfl, fun w _ => by kernel_rfl⟩) hS ?_
  simp only [List.getElem_toArray, List.getElem_cons_zero, List.getElem_cons_succ, Act.put, List.setIfInBounds_toArray, List.set_cons_zero, List.set_cons_succ]
  refine wpAnyH_take (i := 1) (v := .agg (adr true b)) rfl (by kernel_rfl) (by kernel_rfl) (by kernel_rfl) (fun _ _ _ h => h) (yields_padr (.tmp 9) rfl (w.heap.size) (by kernel_rfl) true b n (fun w h => h.1) LB.out (by kernel_rfl)) hS ?_
  simp only [List.getElem_toArray, List.getElem_cons_zero, List.getElem_cons_succ, Act.put, List.setIfInBounds_toArray, List.set_cons_zero, List.set_cons_succ]
  refine wpAnyH_take (i := 5) (v := .pointer (some ⟨w.heap.size, 17, none⟩)) rfl (by kernel_rfl) (by kernel_rfl) (by kernel_rfl) (fun _ _ _ h => h) (.inl ⟨by kernel_rfl, fun w _ => by kernel_rfl⟩) hS ?_
  simp only [List.getElem_toArray, List.getElem_cons_zero, List.getElem_cons_succ, Act.put, List.setIfInBounds_toArray, List.set_cons_zero, List.set_cons_succ]
  refine wpAnyH_take (i := 6) (v := .int .i64 n) rfl (by kernel_rfl) (by kernel_rfl) (by kernel_rfl) (fun _ _ _ h => h) (yields_cell (.tmp 14) rfl (w.heap.size) 17 (by kernel_rfl) n (fun w h => pnt_portCell h.1 LB.out) (by kernel_rfl)) hS ?_
  simp only [List.getElem_toArray, List.getElem_cons_zero, List.getElem_cons_succ, Act.put, List.setIfInBounds_toArray, List.set_cons_zero, List.set_cons_succ]
  refine wpAnyH_ready (rs := [2]) (by kernel_rfl) (by simp) ?_
  refine AllReadyH.cons rfl (fun K' hK => ?_) AllReadyH.nil
  refine step_call 82 #[.agg (adr true b)] (by kernel_rfl) (by kernel_rfl) (.string T) (CF.out _) (fun v1 hv1 => hK.out _ _ (⟨hS.1.kept hv1, bel2 hS.2 hv1⟩) (fun hS => ?_))
  simp only [List.getElem_toArray, List.getElem_cons_zero, List.getElem_cons_succ, Act.put, List.setIfInBounds_toArray, List.set_cons_zero, List.set_cons_succ]
  refine wpAnyH_take (i := 3) (v := .string T1) rfl (by kernel_rfl) (by kernel_rfl) (by kernel_rfl) (fun _ _ _ h => h) (.inl ⟨by kernel_rfl, fun w _ => exec_sadd 9 9 (.const (.string ⟨#[91]⟩)) (.tmp 11) rfl ⟨#[91]⟩ T T1 (by kernel_rfl) (by kernel_rfl) (h1 w)⟩) hS ?_
  simp only [List.getElem_toArray, List.getElem_cons_zero, List.getElem_cons_succ, Act.put, List.setIfInBounds_toArray, List.set_cons_zero, List.set_cons_succ]
  refine wpAnyH_take (i := 4) (v := .string T2) rfl (by kernel_rfl) (by kernel_rfl) (by kernel_rfl) (fun _ _ _ h => h) (.inl ⟨by kernel_rfl, fun w _ => exec_sadd 9 9 (.tmp 12) (.const (.string ⟨#[93, 58]⟩)) rfl T1 ⟨#[93, 58]⟩ T2 (by kernel_rfl) (by kernel_rfl) (h2 w)⟩) hS ?_
  simp only [List.getElem_toArray, List.getElem_cons_zero, List.getElem_cons_succ, Act.put, List.setIfInBounds_toArray, List.set_cons_zero, List.set_cons_succ]
  refine wpAnyH_ready (rs := [7]) (by kernel_rfl) (by simp) ?_
  refine AllReadyH.cons rfl (fun K' hK => ?_) AllReadyH.nil
  refine step_call 83 #[.int .i64 n] (by kernel_rfl) (by kernel_rfl) (.string D) (CI.out _) (fun v2 hv2 => hK.out _ _ (⟨hS.1.kept hv2, bel2 hS.2 hv2⟩) (fun hS => ?_))
  simp only [List.getElem_toArray, List.getElem_cons_zero, List.getElem_cons_succ, Act.put, List.setIfInBounds_toArray, List.set_cons_zero, List.set_cons_succ]
  refine wpAnyH_take (i := 8) (v := .string T3) rfl (by kernel_rfl) (by kernel_rfl) (by kernel_rfl) (fun _ _ _ h => h) (.inl ⟨by kernel_rfl, fun w _ => exec_sadd 9 9 (.tmp 13) (.tmp 16) rfl T2 D T3 (by kernel_rfl) (by kernel_rfl) (h3 w)⟩) hS ?_
  simp only [List.getElem_toArray, List.getElem_cons_zero, List.getElem_cons_succ, Act.put, List.setIfInBounds_toArray, List.set_cons_zero, List.set_cons_succ]
  refine wpAnyH_take (i := 9) (v := .string T3) rfl (by kernel_rfl) (by kernel_rfl) (by kernel_rfl) (fun _ _ _ h => h) (.inl ⟨by kernel_rfl, fun w _ => by kernel_rfl⟩) hS ?_
  simp only [List.getElem_toArray, List.getElem_cons_zero, List.getElem_cons_succ, Act.put, List.setIfInBounds_toArray, List.set_cons_zero, List.set_cons_succ]
  refine wpAnyH_done (by kernel_rfl) ?_ _
  obtain ⟨_, hbE⟩ := hS
  go_wp2
  go_ret
  exact ⟨rfl, hbE⟩

set_option linter.unusedSimpArgs false in
set_option maxRecDepth 100000 in
set_option maxHeartbeats 4000000 in
theorem rpformat_four (b : List Int) (hl : b.length = 16) (n : Int) (T T1 D T2 : ByteArray) (w : World)
    (cR : ∀ w, Calls Tryz.prog 40 #[.agg (pnt false b n)] w fun e w' => e = .returned (.bool true) ∧ Below w.heap.size w w')
    (cF : ∀ w, Calls Tryz.prog 82 #[.agg (adr false b)] w fun e w' => e = .returned (.string T) ∧ Below w.heap.size w w')
    (cI : ∀ w, Calls Tryz.prog 83 #[.int .i64 n] w fun e w' => e = .returned (.string D) ∧ Below w.heap.size w w')
    (h1 : ∀ w', (Op.stringOp .add T ⟨#[58]⟩).run Tryz.prog w' = .ok (.string T1) w')
    (h2 : ∀ w', (Op.stringOp .add T1 D).run Tryz.prog w' = .ok (.string T2) w')
    : Calls Tryz.prog 41 #[.agg (pnt false b n)] w fun e w' => e = .returned (.string T2) ∧ Below w.heap.size w w' := by
  obtain ⟨W0, hW0⟩ : ∃ W, W = w.alloc (.cells (pnt false b n) 60) := ⟨_, rfl⟩
  have hB0 : Blk W0 w.heap.size 60 (pnt false b n) := hW0 ▸ Blk.new w _ _
  have hb0 : Below w.heap.size w W0 := hW0 ▸ (Below.refl _ _).alloc (Nat.le_refl _) _
  have HW0 := Lib.hid hW0.symm
  have HB0 := Lib.hid hB0
  have Hb0 := Lib.hid hb0
  have LB := Lib.hid hl
  have L18 : Hid (18 = (pnt false b n).size) := Lib.hid (by rw [pnt_size, hl])
  have CR := Lib.hid cR
  have CF := Lib.hid cF
  have CI := Lib.hid cI
  clear hW0 hB0 hb0 hl cR cF cI
  go_enter Tryz.func41, Tryz.ntmps41
  go_upto_region 1 with fail
  rw [HW0.out]
  go_wp2_with (refine wpl_load 60 _ rfl w.heap.size rfl _ _ _ HB0.out Tryz.underlying60 rfl 18 Tryz.infoPoint L18.out rfl ?_)
  refine (CR.out W0).mono ?_
  rintro e w1 ⟨rfl, hb1⟩
  have h0 : w1.cell? ⟨w.heap.size, 0, none⟩ = some (.bool false) := by rw [(HB0.out.kept hb1).cell]; rfl
  have hS0 : Blk w1.drew (w.heap.size) 60 (pnt false b n) ∧ Below w.heap.size w w1.drew := ⟨(HB0.out.kept hb1).kept (below_drewN w1 1), bel2 (bel2 Hb0.out hb1) (below_drewN w1 1)⟩
  clear hb1
  go_wp2_with fail
  refine wp_region_held_drew (S := fun w' => Blk w' (w.heap.size) 60 (pnt false b n) ∧ Below w.heap.size w w') (by kernel_rfl) hS0 (fun hS => ?_)
  change wpAnyH _ _ _ _ _ 9 #[false, false, false, false, false, false, false, false, false] _ _
  refine wpAnyH_take (i := 0) (v := .pointer (some ⟨w.heap.size, 0, none⟩)) rfl (by kernel_rfl) (by kernel_rfl) (by kernel_rfl) (fun _ _ _ h => h) (.inl ⟨by kernel_rfl, fun w _ => by kernel_rfl⟩) hS ?_
  simp only [List.getElem_toArray, List.getElem_cons_zero, List.getElem_cons_succ, Act.put, List.setIfInBounds_toArray, List.set_cons_zero, List.set_cons_succ]
  refine wpAnyH_take (i := 1) (v := .agg (adr false b)) rfl (by kernel_rfl) (by kernel_rfl) (by kernel_rfl) (fun _ _ _ h => h) (yields_padr (.tmp 18) rfl (w.heap.size) (by kernel_rfl) false b n (fun w h => h.1) LB.out (by kernel_rfl)) hS ?_
  simp only [List.getElem_toArray, List.getElem_cons_zero, List.getElem_cons_succ, Act.put, List.setIfInBounds_toArray, List.set_cons_zero, List.set_cons_succ]
  refine wpAnyH_take (i := 4) (v := .pointer (some ⟨w.heap.size, 17, none⟩)) rfl (by kernel_rfl) (by kernel_rfl) (by kernel_rfl) (fun _ _ _ h => h) (.inl ⟨by kernel_rfl, fun w _ => by kernel_rfl⟩) hS ?_
  simp only [List.getElem_toArray, List.getElem_cons_zero, List.getElem_cons_succ, Act.put, List.setIfInBounds_toArray, List.set_cons_zero, List.set_cons_succ]
  refine wpAnyH_take (i := 5) (v := .int .i64 n) rfl (by kernel_rfl) (by kernel_rfl) (by kernel_rfl) (fun _ _ _ h => h) (yields_cell (.tmp 22) rfl (w.heap.size) 17 (by kernel_rfl) n (fun w h => pnt_portCell h.1 LB.out) (by kernel_rfl)) hS ?_
  simp only [List.getElem_toArray, List.getElem_cons_zero, List.getElem_cons_succ, Act.put, List.setIfInBounds_toArray, List.set_cons_zero, List.set_cons_succ]
  refine wpAnyH_ready (rs := [2]) (by kernel_rfl) (by simp) ?_
  refine AllReadyH.cons rfl (fun K' hK => ?_) AllReadyH.nil
  refine step_call 82 #[.agg (adr false b)] (by kernel_rfl) (by kernel_rfl) (.string T) (CF.out _) (fun v1 hv1 => hK.out _ _ (⟨hS.1.kept hv1, bel2 hS.2 hv1⟩) (fun hS => ?_))
  simp only [List.getElem_toArray, List.getElem_cons_zero, List.getElem_cons_succ, Act.put, List.setIfInBounds_toArray, List.set_cons_zero, List.set_cons_succ]
  refine wpAnyH_take (i := 3) (v := .string T1) rfl (by kernel_rfl) (by kernel_rfl) (by kernel_rfl) (fun _ _ _ h => h) (.inl ⟨by kernel_rfl, fun w _ => exec_sadd 9 9 (.tmp 20) (.const (.string ⟨#[58]⟩)) rfl T ⟨#[58]⟩ T1 (by kernel_rfl) (by kernel_rfl) (h1 w)⟩) hS ?_
  simp only [List.getElem_toArray, List.getElem_cons_zero, List.getElem_cons_succ, Act.put, List.setIfInBounds_toArray, List.set_cons_zero, List.set_cons_succ]
  refine wpAnyH_ready (rs := [6]) (by kernel_rfl) (by simp) ?_
  refine AllReadyH.cons rfl (fun K' hK => ?_) AllReadyH.nil
  refine step_call 83 #[.int .i64 n] (by kernel_rfl) (by kernel_rfl) (.string D) (CI.out _) (fun v2 hv2 => hK.out _ _ (⟨hS.1.kept hv2, bel2 hS.2 hv2⟩) (fun hS => ?_))
  simp only [List.getElem_toArray, List.getElem_cons_zero, List.getElem_cons_succ, Act.put, List.setIfInBounds_toArray, List.set_cons_zero, List.set_cons_succ]
  refine wpAnyH_take (i := 7) (v := .string T2) rfl (by kernel_rfl) (by kernel_rfl) (by kernel_rfl) (fun _ _ _ h => h) (.inl ⟨by kernel_rfl, fun w _ => exec_sadd 9 9 (.tmp 21) (.tmp 24) rfl T1 D T2 (by kernel_rfl) (by kernel_rfl) (h2 w)⟩) hS ?_
  simp only [List.getElem_toArray, List.getElem_cons_zero, List.getElem_cons_succ, Act.put, List.setIfInBounds_toArray, List.set_cons_zero, List.set_cons_succ]
  refine wpAnyH_take (i := 8) (v := .string T2) rfl (by kernel_rfl) (by kernel_rfl) (by kernel_rfl) (fun _ _ _ h => h) (.inl ⟨by kernel_rfl, fun w _ => by kernel_rfl⟩) hS ?_
  simp only [List.getElem_toArray, List.getElem_cons_zero, List.getElem_cons_succ, Act.put, List.setIfInBounds_toArray, List.set_cons_zero, List.set_cons_succ]
  refine wpAnyH_done (by kernel_rfl) ?_ _
  obtain ⟨_, hbE⟩ := hS
  go_wp2
  go_ret
  exact ⟨rfl, hbE⟩

end Go.Proofs.YtnfkgoeocebenaaGreatDoor
