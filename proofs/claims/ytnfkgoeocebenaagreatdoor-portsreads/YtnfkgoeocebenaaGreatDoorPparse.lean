/-
  ports.Parse: a text's point.
-/
import Derived.Test.YtnfkgoeocebenaaGreatDoorPport
import Derived.Test.YtnfkgoeocebenaaGreatDoorPaddr
import Derived.Deep.Cut
namespace Go.Proofs.YtnfkgoeocebenaaGreatDoor
open Go.RowKit

theorem run_build_pnt (s : Bool) (b : List Int) (hl : b.length = 16) (n : Int) (w : World) : (Instr.build 60 #[(0, .agg (adr s b)), (1, .int .i64 n)]).run Tryz.prog w = .ok (.agg (pnt s b n)) w := by
  match b, hl with
  | [a0, a1, a2, a3, a4, a5, a6, a7, a8, a9, a10, a11, a12, a13, a14, a15], _ =>
    show _ = _
    kernel_rfl
theorem exec_build_pnt {a : Act} {o : Oper} (x y : Operand) (ho : o.op = .build 60 #[(0, x), (1, y)]) (s : Bool) (b : List Int) (hl : b.length = 16) (n : Int) (hx : a.eval x = .agg (adr s b)) (hy : a.eval y = .int .i64 n) (w : World) :
    (execOp a.eval o).run Tryz.prog w = .ok (.value (.agg (pnt s b n))) w := by
  unfold execOp
  simp only [ho, List.map_toArray, List.map_cons, List.map_nil, hx, hy, Sem.run_bind, Sem.run_pure, Result.andThen_ok, run_build_pnt s b hl n]

set_option maxRecDepth 100000 in
set_option maxHeartbeats 4000000 in
theorem pp_no (s : ByteArray) (E : Value) (w : World) (hE : Env E w)
    (cL : ∀ w, Calls Tryz.prog 73 #[.string s, .string ⟨#[58]⟩] w fun e w' => e = .returned (.int .i64 (-1)) ∧ w' = w) :
    Calls Tryz.prog 36 #[.string s] w fun e w' => e = .returned (.tuple #[.agg (pnt false z16 0), E]) ∧ Below w.heap.size w w' := by
  obtain ⟨W0, hW0⟩ : ∃ W, W = w.alloc (.cells (pnt false z16 0) 60) := ⟨_, rfl⟩
  have hBW0 : Blk W0 w.heap.size 60 (pnt false z16 0) := hW0 ▸ Blk.new w _ _
  have hbW0 : Below w.heap.size w W0 := hW0 ▸ (Below.refl _ _).alloc (Nat.le_refl _) _
  have HW0 : Hid (w.alloc (.cells #[.bool false, .int .u8 0, .int .u8 0, .int .u8 0, .int .u8 0, .int .u8 0, .int .u8 0, .int .u8 0, .int .u8 0, .int .u8 0, .int .u8 0, .int .u8 0, .int .u8 0, .int .u8 0, .int .u8 0, .int .u8 0, .int .u8 0, .int .i64 0] 60) = W0) := Lib.hid hW0.symm
  have HB0 := Lib.hid hBW0
  have Hb0 := Lib.hid hbW0
  have HE := Lib.hid hE
  have HF : Hid (w.cell? ⟨0, 0, none⟩ = some E) := Lib.hid hE.form
  have CL := Lib.hid cL
  have HBR4 := HB0
  have Hb4 := Hb0
  clear hW0 hBW0 hbW0 hE cL
  go_enter Tryz.func36, Tryz.ntmps36
  go_wp2_with fail
  rw [HW0.out]
  refine (CL.out W0).mono ?_
  rintro e w1 ⟨rfl, hw1⟩
  rw [hw1]
  clear hw1
  go_wp2_with fail
  obtain ⟨wx, hwx⟩ : ∃ wx, wx = W0 := ⟨_, rfl⟩
  have HBx : Hid (Blk wx w.heap.size 60 (pnt false z16 0)) := Lib.hid (hwx ▸ HBR4.out)
  have Hbx : Hid (Below w.heap.size w wx) := Lib.hid (hwx ▸ Hb4.out)
  rw [← hwx]
  clear hwx
  have HB5d : Hid (Blk wx.drew w.heap.size 60 (pnt false z16 0)) := Lib.hid (HBx.out.kept (below_drewN wx 1))
  have hform : wx.cell? ⟨0, 0, none⟩ = some E := cell_kept HF.out Hbx.out
  have hform2 : (wx.drew.setRow w.heap.size (pnt false z16 0)).cell? ⟨0, 0, none⟩ = some E := cell_kept HF.out (below_setRow (bel2 Hbx.out (below_drewN wx 1)) (Nat.le_refl _) _)
  refine wp_region_any (by kernel_rfl) ?_
  change wpAny _ _ _ _ _ _ _ (World.drew _)
  refine wpAny_take (i := 0) (v := .agg (pnt false z16 0)) rfl (by kernel_rfl) (by kernel_rfl) (by kernel_rfl) (fun _ _ _ h => h) (Or.inl ⟨by rfl, fun w => by kernel_rfl⟩) ?_
  refine wpAny_ready (rs := [1, 2]) (by kernel_rfl) (by simp) ?_
  refine AllReady.cons rfl (fun K hK => ?_) (AllReady.cons rfl (fun K hK => ?_) AllReady.nil)
  · refine step_run E wx.drew (by go_simp) rfl (hK _ _ ?_)
    refine wpAny_ready (rs := [2]) (by kernel_rfl) (by simp) ?_
    refine AllReady.cons rfl (fun K hK => ?_) AllReady.nil
    refine step_store 60 (.tmp 2) (.tmp 13) rfl w.heap.size (pnt false z16 0) rfl rfl 60 (pnt false z16 0) HB5d.out 18 Tryz.infoPoint rfl rfl (pnt_one _ _ _) rfl (hK _ _ ?_)
    refine wpAny_ready (rs := [3]) (by kernel_rfl) (by simp) ?_
    refine AllReady.cons rfl (fun K hK => ?_) AllReady.nil
    refine step_run E _ rfl rfl (hK _ _ ?_)
    refine wpAny_done (by kernel_rfl) ?_ _
    go_wp2
    exact retA2 rfl w.heap.size rfl _ _ _ (HB5d.out.row _) Tryz.underlying60 rfl 18 Tryz.infoPoint rfl rfl _ rfl ⟨rfl, below_setRow (bel2 Hbx.out (below_drewN wx 1)) (Nat.le_refl _) _⟩
  · refine step_store 60 (.tmp 2) (.tmp 13) rfl w.heap.size (pnt false z16 0) rfl rfl 60 (pnt false z16 0) HB5d.out 18 Tryz.infoPoint rfl rfl (pnt_one _ _ _) rfl (hK _ _ ?_)
    refine wpAny_ready (rs := [1]) (by kernel_rfl) (by simp) ?_
    refine AllReady.cons rfl (fun K hK => ?_) AllReady.nil
    refine step_run E (wx.drew.setRow w.heap.size (pnt false z16 0)) (by go_simp) rfl (hK _ _ ?_)
    refine wpAny_ready (rs := [3]) (by kernel_rfl) (by simp) ?_
    refine AllReady.cons rfl (fun K hK => ?_) AllReady.nil
    refine step_run E _ rfl rfl (hK _ _ ?_)
    refine wpAny_done (by kernel_rfl) ?_ _
    go_wp2
    exact retA2 rfl w.heap.size rfl _ _ _ (HB5d.out.row _) Tryz.underlying60 rfl 18 Tryz.infoPoint rfl rfl _ rfl ⟨rfl, below_setRow (bel2 Hbx.out (below_drewN wx 1)) (Nat.le_refl _) _⟩

set_option maxRecDepth 100000 in
set_option maxHeartbeats 4000000 in
theorem pp_ff (s hd tl : ByteArray) (k k1 : Nat) (e1 : IntKind.i64.wrap ((k : Int) + 1) = (k1 : Int)) (sa : Bool) (ab : List Int) (hl : ab.length = 16) (n : Int) (E : Value) (w : World) (hE : Env E w)
    (cL : ∀ w, Calls Tryz.prog 73 #[.string s, .string ⟨#[58]⟩] w fun e w' => e = .returned (.int .i64 (k : Int)) ∧ w' = w)
    (hsl1 : ∀ w, (Instr.sliceAt 9 (.string s) none (some (.int .i64 (k : Int))) none).run Tryz.prog w = .ok (.string hd) w)
    (hsl2 : ∀ w, (Instr.sliceAt 9 (.string s) (some (.int .i64 (k1 : Int))) none none).run Tryz.prog w = .ok (.string tl) w)
    (cA : ∀ w, Env E w → Calls Tryz.prog 74 #[.string hd] w fun e w' => e = .returned (.tuple #[.agg (adr sa ab), .bool false]) ∧ Below w.heap.size w w')
    (cF : ∀ w, Env E w → Calls Tryz.prog 75 #[.string tl] w fun e w' => e = .returned (.tuple #[.int .i64 n, .bool false]) ∧ Below w.heap.size w w') :
    Calls Tryz.prog 36 #[.string s] w fun e w' => e = .returned (.tuple #[.agg (pnt false z16 0), E]) ∧ Below w.heap.size w w' := by
  obtain ⟨W0, hW0⟩ : ∃ W, W = w.alloc (.cells (pnt false z16 0) 60) := ⟨_, rfl⟩
  have hBW0 : Blk W0 w.heap.size 60 (pnt false z16 0) := hW0 ▸ Blk.new w _ _
  have hbW0 : Below w.heap.size w W0 := hW0 ▸ (Below.refl _ _).alloc (Nat.le_refl _) _
  have HW0 : Hid (w.alloc (.cells #[.bool false, .int .u8 0, .int .u8 0, .int .u8 0, .int .u8 0, .int .u8 0, .int .u8 0, .int .u8 0, .int .u8 0, .int .u8 0, .int .u8 0, .int .u8 0, .int .u8 0, .int .u8 0, .int .u8 0, .int .u8 0, .int .u8 0, .int .i64 0] 60) = W0) := Lib.hid hW0.symm
  have HB0 := Lib.hid hBW0
  have Hb0 := Lib.hid hbW0
  have HE := Lib.hid hE
  have HF : Hid (w.cell? ⟨0, 0, none⟩ = some E) := Lib.hid hE.form
  have CL := Lib.hid cL
  have CA := Lib.hid cA
  have CF := Lib.hid cF
  have L17 : Hid (17 = (adr sa ab).size) := Lib.hid (by rw [adr_size, hl])
  have L18 : Hid (18 = (pnt sa ab n).size) := Lib.hid (by rw [pnt_size, hl])
  have HL := Lib.hid hl
  have hk0 : (decide ((k : Int) < 0)) = false := decide_eq_false (by omega)
  clear hW0 hBW0 hbW0 hE cL cA cF hl
  go_enter Tryz.func36, Tryz.ntmps36
  go_wp2_with fail
  rw [HW0.out]
  refine (CL.out W0).mono ?_
  rintro e w1 ⟨rfl, hw1⟩
  rw [hw1]
  clear hw1
  go_wp2_with fail
  refine (CA.out W0 (HE.out.kept Hb0.out)).mono ?_
  rintro e w2 ⟨rfl, hb2⟩
  have Hb2 := Lib.hid (bel2 Hb0.out hb2)
  have HB2 := Lib.hid (HB0.out.kept hb2)
  obtain ⟨W3, hW3⟩ : ∃ W, W = w2.alloc (.cells (adr false z16) 24) := ⟨_, rfl⟩
  have hBW3 : Blk W3 w2.heap.size 24 (adr false z16) := hW3 ▸ Blk.new w2 _ _
  have hbW3 : Below w2.heap.size w2 W3 := hW3 ▸ (Below.refl _ _).alloc (Nat.le_refl _) _
  have HW3 : Hid (w2.alloc (.cells #[.bool false, .int .u8 0, .int .u8 0, .int .u8 0, .int .u8 0, .int .u8 0, .int .u8 0, .int .u8 0, .int .u8 0, .int .u8 0, .int .u8 0, .int .u8 0, .int .u8 0, .int .u8 0, .int .u8 0, .int .u8 0, .int .u8 0] 24) = W3) := Lib.hid hW3.symm
  have HB3 := Lib.hid hBW3
  obtain ⟨V, hV⟩ : ∃ V, V = W3.setRow w2.heap.size (adr sa ab) := ⟨_, rfl⟩
  have HV := Lib.hid hV.symm
  have hsz : w.heap.size < w2.heap.size := HB2.out.lt
  have HBV : Hid (Blk V w2.heap.size 24 (adr sa ab)) := Lib.hid (hV ▸ hBW3.row _)
  have HBR : Hid (Blk V w.heap.size 60 (pnt false z16 0)) := Lib.hid (hV ▸ (HB2.out.kept hbW3).rowOther (by omega) _)
  have HbV : Hid (Below w.heap.size w V) := Lib.hid (hV ▸ below_setRow (bel2 Hb2.out hbW3) (by omega) _)
  clear hb2 hW3 hBW3 hbW3 hV
  go_wp2_with ((try rw [HW3.out]); refine wpl_store 24 _ _ rfl w2.heap.size (adr sa ab) rfl rfl _ _ HB3.out 17 Tryz.infoAddr L17.out rfl (adr_one _ _) rfl ?_; rw [HV.out])
  refine (CF.out V (HE.out.kept HbV.out)).mono ?_
  rintro e w4 ⟨rfl, hb4⟩
  have Hb4 := Lib.hid (bel2 HbV.out hb4)
  have HBA4 := Lib.hid (HBV.out.kept hb4)
  have HBR4 := Lib.hid (HBR.out.kept hb4)
  clear hb4
  go_wp2_with fail
  obtain ⟨wx, hwx⟩ : ∃ wx, wx = w4 := ⟨_, rfl⟩
  have HBx : Hid (Blk wx w.heap.size 60 (pnt false z16 0)) := Lib.hid (hwx ▸ HBR4.out)
  have Hbx : Hid (Below w.heap.size w wx) := Lib.hid (hwx ▸ Hb4.out)
  rw [← hwx]
  clear hwx
  have HB5d : Hid (Blk wx.drew w.heap.size 60 (pnt false z16 0)) := Lib.hid (HBx.out.kept (below_drewN wx 1))
  have hform : wx.cell? ⟨0, 0, none⟩ = some E := cell_kept HF.out Hbx.out
  have hform2 : (wx.drew.setRow w.heap.size (pnt false z16 0)).cell? ⟨0, 0, none⟩ = some E := cell_kept HF.out (below_setRow (bel2 Hbx.out (below_drewN wx 1)) (Nat.le_refl _) _)
  refine wp_region_any (by kernel_rfl) ?_
  change wpAny _ _ _ _ _ _ _ (World.drew _)
  refine wpAny_take (i := 0) (v := .agg (pnt false z16 0)) rfl (by kernel_rfl) (by kernel_rfl) (by kernel_rfl) (fun _ _ _ h => h) (Or.inl ⟨by rfl, fun w => by kernel_rfl⟩) ?_
  refine wpAny_ready (rs := [1, 2]) (by kernel_rfl) (by simp) ?_
  refine AllReady.cons rfl (fun K hK => ?_) (AllReady.cons rfl (fun K hK => ?_) AllReady.nil)
  · refine step_run E wx.drew (by go_simp) rfl (hK _ _ ?_)
    refine wpAny_ready (rs := [2]) (by kernel_rfl) (by simp) ?_
    refine AllReady.cons rfl (fun K hK => ?_) AllReady.nil
    refine step_store 60 (.tmp 2) (.tmp 36) rfl w.heap.size (pnt false z16 0) rfl rfl 60 (pnt false z16 0) HB5d.out 18 Tryz.infoPoint rfl rfl (pnt_one _ _ _) rfl (hK _ _ ?_)
    refine wpAny_ready (rs := [3]) (by kernel_rfl) (by simp) ?_
    refine AllReady.cons rfl (fun K hK => ?_) AllReady.nil
    refine step_run E _ rfl rfl (hK _ _ ?_)
    refine wpAny_done (by kernel_rfl) ?_ _
    go_wp2
    exact retA2 rfl w.heap.size rfl _ _ _ (HB5d.out.row _) Tryz.underlying60 rfl 18 Tryz.infoPoint rfl rfl _ rfl ⟨rfl, below_setRow (bel2 Hbx.out (below_drewN wx 1)) (Nat.le_refl _) _⟩
  · refine step_store 60 (.tmp 2) (.tmp 36) rfl w.heap.size (pnt false z16 0) rfl rfl 60 (pnt false z16 0) HB5d.out 18 Tryz.infoPoint rfl rfl (pnt_one _ _ _) rfl (hK _ _ ?_)
    refine wpAny_ready (rs := [1]) (by kernel_rfl) (by simp) ?_
    refine AllReady.cons rfl (fun K hK => ?_) AllReady.nil
    refine step_run E (wx.drew.setRow w.heap.size (pnt false z16 0)) (by go_simp) rfl (hK _ _ ?_)
    refine wpAny_ready (rs := [3]) (by kernel_rfl) (by simp) ?_
    refine AllReady.cons rfl (fun K hK => ?_) AllReady.nil
    refine step_run E _ rfl rfl (hK _ _ ?_)
    refine wpAny_done (by kernel_rfl) ?_ _
    go_wp2
    exact retA2 rfl w.heap.size rfl _ _ _ (HB5d.out.row _) Tryz.underlying60 rfl 18 Tryz.infoPoint rfl rfl _ rfl ⟨rfl, below_setRow (bel2 Hbx.out (below_drewN wx 1)) (Nat.le_refl _) _⟩

set_option maxRecDepth 100000 in
set_option maxHeartbeats 4000000 in
theorem pp_ft (s hd tl : ByteArray) (k k1 : Nat) (e1 : IntKind.i64.wrap ((k : Int) + 1) = (k1 : Int)) (sa : Bool) (ab : List Int) (hl : ab.length = 16) (n : Int) (E : Value) (w : World) (hE : Env E w)
    (cL : ∀ w, Calls Tryz.prog 73 #[.string s, .string ⟨#[58]⟩] w fun e w' => e = .returned (.int .i64 (k : Int)) ∧ w' = w)
    (hsl1 : ∀ w, (Instr.sliceAt 9 (.string s) none (some (.int .i64 (k : Int))) none).run Tryz.prog w = .ok (.string hd) w)
    (hsl2 : ∀ w, (Instr.sliceAt 9 (.string s) (some (.int .i64 (k1 : Int))) none none).run Tryz.prog w = .ok (.string tl) w)
    (cA : ∀ w, Env E w → Calls Tryz.prog 74 #[.string hd] w fun e w' => e = .returned (.tuple #[.agg (adr sa ab), .bool false]) ∧ Below w.heap.size w w')
    (cF : ∀ w, Env E w → Calls Tryz.prog 75 #[.string tl] w fun e w' => e = .returned (.tuple #[.int .i64 n, .bool true]) ∧ Below w.heap.size w w') :
    Calls Tryz.prog 36 #[.string s] w fun e w' => e = .returned (.tuple #[.agg (pnt false z16 0), E]) ∧ Below w.heap.size w w' := by
  obtain ⟨W0, hW0⟩ : ∃ W, W = w.alloc (.cells (pnt false z16 0) 60) := ⟨_, rfl⟩
  have hBW0 : Blk W0 w.heap.size 60 (pnt false z16 0) := hW0 ▸ Blk.new w _ _
  have hbW0 : Below w.heap.size w W0 := hW0 ▸ (Below.refl _ _).alloc (Nat.le_refl _) _
  have HW0 : Hid (w.alloc (.cells #[.bool false, .int .u8 0, .int .u8 0, .int .u8 0, .int .u8 0, .int .u8 0, .int .u8 0, .int .u8 0, .int .u8 0, .int .u8 0, .int .u8 0, .int .u8 0, .int .u8 0, .int .u8 0, .int .u8 0, .int .u8 0, .int .u8 0, .int .i64 0] 60) = W0) := Lib.hid hW0.symm
  have HB0 := Lib.hid hBW0
  have Hb0 := Lib.hid hbW0
  have HE := Lib.hid hE
  have HF : Hid (w.cell? ⟨0, 0, none⟩ = some E) := Lib.hid hE.form
  have CL := Lib.hid cL
  have CA := Lib.hid cA
  have CF := Lib.hid cF
  have L17 : Hid (17 = (adr sa ab).size) := Lib.hid (by rw [adr_size, hl])
  have L18 : Hid (18 = (pnt sa ab n).size) := Lib.hid (by rw [pnt_size, hl])
  have HL := Lib.hid hl
  have hk0 : (decide ((k : Int) < 0)) = false := decide_eq_false (by omega)
  clear hW0 hBW0 hbW0 hE cL cA cF hl
  go_enter Tryz.func36, Tryz.ntmps36
  go_wp2_with fail
  rw [HW0.out]
  refine (CL.out W0).mono ?_
  rintro e w1 ⟨rfl, hw1⟩
  rw [hw1]
  clear hw1
  go_wp2_with fail
  refine (CA.out W0 (HE.out.kept Hb0.out)).mono ?_
  rintro e w2 ⟨rfl, hb2⟩
  have Hb2 := Lib.hid (bel2 Hb0.out hb2)
  have HB2 := Lib.hid (HB0.out.kept hb2)
  obtain ⟨W3, hW3⟩ : ∃ W, W = w2.alloc (.cells (adr false z16) 24) := ⟨_, rfl⟩
  have hBW3 : Blk W3 w2.heap.size 24 (adr false z16) := hW3 ▸ Blk.new w2 _ _
  have hbW3 : Below w2.heap.size w2 W3 := hW3 ▸ (Below.refl _ _).alloc (Nat.le_refl _) _
  have HW3 : Hid (w2.alloc (.cells #[.bool false, .int .u8 0, .int .u8 0, .int .u8 0, .int .u8 0, .int .u8 0, .int .u8 0, .int .u8 0, .int .u8 0, .int .u8 0, .int .u8 0, .int .u8 0, .int .u8 0, .int .u8 0, .int .u8 0, .int .u8 0, .int .u8 0] 24) = W3) := Lib.hid hW3.symm
  have HB3 := Lib.hid hBW3
  obtain ⟨V, hV⟩ : ∃ V, V = W3.setRow w2.heap.size (adr sa ab) := ⟨_, rfl⟩
  have HV := Lib.hid hV.symm
  have hsz : w.heap.size < w2.heap.size := HB2.out.lt
  have HBV : Hid (Blk V w2.heap.size 24 (adr sa ab)) := Lib.hid (hV ▸ hBW3.row _)
  have HBR : Hid (Blk V w.heap.size 60 (pnt false z16 0)) := Lib.hid (hV ▸ (HB2.out.kept hbW3).rowOther (by omega) _)
  have HbV : Hid (Below w.heap.size w V) := Lib.hid (hV ▸ below_setRow (bel2 Hb2.out hbW3) (by omega) _)
  clear hb2 hW3 hBW3 hbW3 hV
  go_wp2_with ((try rw [HW3.out]); refine wpl_store 24 _ _ rfl w2.heap.size (adr sa ab) rfl rfl _ _ HB3.out 17 Tryz.infoAddr L17.out rfl (adr_one _ _) rfl ?_; rw [HV.out])
  refine (CF.out V (HE.out.kept HbV.out)).mono ?_
  rintro e w4 ⟨rfl, hb4⟩
  have Hb4 := Lib.hid (bel2 HbV.out hb4)
  have HBA4 := Lib.hid (HBV.out.kept hb4)
  have HBR4 := Lib.hid (HBR.out.kept hb4)
  clear hb4
  go_wp2_with fail
  obtain ⟨wx, hwx⟩ : ∃ wx, wx = w4 := ⟨_, rfl⟩
  have HBx : Hid (Blk wx w.heap.size 60 (pnt false z16 0)) := Lib.hid (hwx ▸ HBR4.out)
  have Hbx : Hid (Below w.heap.size w wx) := Lib.hid (hwx ▸ Hb4.out)
  rw [← hwx]
  clear hwx
  have HB5d : Hid (Blk wx.drew w.heap.size 60 (pnt false z16 0)) := Lib.hid (HBx.out.kept (below_drewN wx 1))
  have hform : wx.cell? ⟨0, 0, none⟩ = some E := cell_kept HF.out Hbx.out
  have hform2 : (wx.drew.setRow w.heap.size (pnt false z16 0)).cell? ⟨0, 0, none⟩ = some E := cell_kept HF.out (below_setRow (bel2 Hbx.out (below_drewN wx 1)) (Nat.le_refl _) _)
  refine wp_region_any (by kernel_rfl) ?_
  change wpAny _ _ _ _ _ _ _ (World.drew _)
  refine wpAny_take (i := 0) (v := .agg (pnt false z16 0)) rfl (by kernel_rfl) (by kernel_rfl) (by kernel_rfl) (fun _ _ _ h => h) (Or.inl ⟨by rfl, fun w => by kernel_rfl⟩) ?_
  refine wpAny_ready (rs := [1, 2]) (by kernel_rfl) (by simp) ?_
  refine AllReady.cons rfl (fun K hK => ?_) (AllReady.cons rfl (fun K hK => ?_) AllReady.nil)
  · refine step_run E wx.drew (by go_simp) rfl (hK _ _ ?_)
    refine wpAny_ready (rs := [2]) (by kernel_rfl) (by simp) ?_
    refine AllReady.cons rfl (fun K hK => ?_) AllReady.nil
    refine step_store 60 (.tmp 2) (.tmp 36) rfl w.heap.size (pnt false z16 0) rfl rfl 60 (pnt false z16 0) HB5d.out 18 Tryz.infoPoint rfl rfl (pnt_one _ _ _) rfl (hK _ _ ?_)
    refine wpAny_ready (rs := [3]) (by kernel_rfl) (by simp) ?_
    refine AllReady.cons rfl (fun K hK => ?_) AllReady.nil
    refine step_run E _ rfl rfl (hK _ _ ?_)
    refine wpAny_done (by kernel_rfl) ?_ _
    go_wp2
    exact retA2 rfl w.heap.size rfl _ _ _ (HB5d.out.row _) Tryz.underlying60 rfl 18 Tryz.infoPoint rfl rfl _ rfl ⟨rfl, below_setRow (bel2 Hbx.out (below_drewN wx 1)) (Nat.le_refl _) _⟩
  · refine step_store 60 (.tmp 2) (.tmp 36) rfl w.heap.size (pnt false z16 0) rfl rfl 60 (pnt false z16 0) HB5d.out 18 Tryz.infoPoint rfl rfl (pnt_one _ _ _) rfl (hK _ _ ?_)
    refine wpAny_ready (rs := [1]) (by kernel_rfl) (by simp) ?_
    refine AllReady.cons rfl (fun K hK => ?_) AllReady.nil
    refine step_run E (wx.drew.setRow w.heap.size (pnt false z16 0)) (by go_simp) rfl (hK _ _ ?_)
    refine wpAny_ready (rs := [3]) (by kernel_rfl) (by simp) ?_
    refine AllReady.cons rfl (fun K hK => ?_) AllReady.nil
    refine step_run E _ rfl rfl (hK _ _ ?_)
    refine wpAny_done (by kernel_rfl) ?_ _
    go_wp2
    exact retA2 rfl w.heap.size rfl _ _ _ (HB5d.out.row _) Tryz.underlying60 rfl 18 Tryz.infoPoint rfl rfl _ rfl ⟨rfl, below_setRow (bel2 Hbx.out (below_drewN wx 1)) (Nat.le_refl _) _⟩

set_option maxRecDepth 100000 in
set_option maxHeartbeats 4000000 in
theorem pp_tf (s hd tl : ByteArray) (k k1 : Nat) (e1 : IntKind.i64.wrap ((k : Int) + 1) = (k1 : Int)) (sa : Bool) (ab : List Int) (hl : ab.length = 16) (n : Int) (E : Value) (w : World) (hE : Env E w)
    (cL : ∀ w, Calls Tryz.prog 73 #[.string s, .string ⟨#[58]⟩] w fun e w' => e = .returned (.int .i64 (k : Int)) ∧ w' = w)
    (hsl1 : ∀ w, (Instr.sliceAt 9 (.string s) none (some (.int .i64 (k : Int))) none).run Tryz.prog w = .ok (.string hd) w)
    (hsl2 : ∀ w, (Instr.sliceAt 9 (.string s) (some (.int .i64 (k1 : Int))) none none).run Tryz.prog w = .ok (.string tl) w)
    (cA : ∀ w, Env E w → Calls Tryz.prog 74 #[.string hd] w fun e w' => e = .returned (.tuple #[.agg (adr sa ab), .bool true]) ∧ Below w.heap.size w w')
    (cF : ∀ w, Env E w → Calls Tryz.prog 75 #[.string tl] w fun e w' => e = .returned (.tuple #[.int .i64 n, .bool false]) ∧ Below w.heap.size w w') :
    Calls Tryz.prog 36 #[.string s] w fun e w' => e = .returned (.tuple #[.agg (pnt false z16 0), E]) ∧ Below w.heap.size w w' := by
  obtain ⟨W0, hW0⟩ : ∃ W, W = w.alloc (.cells (pnt false z16 0) 60) := ⟨_, rfl⟩
  have hBW0 : Blk W0 w.heap.size 60 (pnt false z16 0) := hW0 ▸ Blk.new w _ _
  have hbW0 : Below w.heap.size w W0 := hW0 ▸ (Below.refl _ _).alloc (Nat.le_refl _) _
  have HW0 : Hid (w.alloc (.cells #[.bool false, .int .u8 0, .int .u8 0, .int .u8 0, .int .u8 0, .int .u8 0, .int .u8 0, .int .u8 0, .int .u8 0, .int .u8 0, .int .u8 0, .int .u8 0, .int .u8 0, .int .u8 0, .int .u8 0, .int .u8 0, .int .u8 0, .int .i64 0] 60) = W0) := Lib.hid hW0.symm
  have HB0 := Lib.hid hBW0
  have Hb0 := Lib.hid hbW0
  have HE := Lib.hid hE
  have HF : Hid (w.cell? ⟨0, 0, none⟩ = some E) := Lib.hid hE.form
  have CL := Lib.hid cL
  have CA := Lib.hid cA
  have CF := Lib.hid cF
  have L17 : Hid (17 = (adr sa ab).size) := Lib.hid (by rw [adr_size, hl])
  have L18 : Hid (18 = (pnt sa ab n).size) := Lib.hid (by rw [pnt_size, hl])
  have HL := Lib.hid hl
  have hk0 : (decide ((k : Int) < 0)) = false := decide_eq_false (by omega)
  clear hW0 hBW0 hbW0 hE cL cA cF hl
  go_enter Tryz.func36, Tryz.ntmps36
  go_wp2_with fail
  rw [HW0.out]
  refine (CL.out W0).mono ?_
  rintro e w1 ⟨rfl, hw1⟩
  rw [hw1]
  clear hw1
  go_wp2_with fail
  refine (CA.out W0 (HE.out.kept Hb0.out)).mono ?_
  rintro e w2 ⟨rfl, hb2⟩
  have Hb2 := Lib.hid (bel2 Hb0.out hb2)
  have HB2 := Lib.hid (HB0.out.kept hb2)
  obtain ⟨W3, hW3⟩ : ∃ W, W = w2.alloc (.cells (adr false z16) 24) := ⟨_, rfl⟩
  have hBW3 : Blk W3 w2.heap.size 24 (adr false z16) := hW3 ▸ Blk.new w2 _ _
  have hbW3 : Below w2.heap.size w2 W3 := hW3 ▸ (Below.refl _ _).alloc (Nat.le_refl _) _
  have HW3 : Hid (w2.alloc (.cells #[.bool false, .int .u8 0, .int .u8 0, .int .u8 0, .int .u8 0, .int .u8 0, .int .u8 0, .int .u8 0, .int .u8 0, .int .u8 0, .int .u8 0, .int .u8 0, .int .u8 0, .int .u8 0, .int .u8 0, .int .u8 0, .int .u8 0] 24) = W3) := Lib.hid hW3.symm
  have HB3 := Lib.hid hBW3
  obtain ⟨V, hV⟩ : ∃ V, V = W3.setRow w2.heap.size (adr sa ab) := ⟨_, rfl⟩
  have HV := Lib.hid hV.symm
  have hsz : w.heap.size < w2.heap.size := HB2.out.lt
  have HBV : Hid (Blk V w2.heap.size 24 (adr sa ab)) := Lib.hid (hV ▸ hBW3.row _)
  have HBR : Hid (Blk V w.heap.size 60 (pnt false z16 0)) := Lib.hid (hV ▸ (HB2.out.kept hbW3).rowOther (by omega) _)
  have HbV : Hid (Below w.heap.size w V) := Lib.hid (hV ▸ below_setRow (bel2 Hb2.out hbW3) (by omega) _)
  clear hb2 hW3 hBW3 hbW3 hV
  go_wp2_with ((try rw [HW3.out]); refine wpl_store 24 _ _ rfl w2.heap.size (adr sa ab) rfl rfl _ _ HB3.out 17 Tryz.infoAddr L17.out rfl (adr_one _ _) rfl ?_; rw [HV.out])
  refine (CF.out V (HE.out.kept HbV.out)).mono ?_
  rintro e w4 ⟨rfl, hb4⟩
  have Hb4 := Lib.hid (bel2 HbV.out hb4)
  have HBA4 := Lib.hid (HBV.out.kept hb4)
  have HBR4 := Lib.hid (HBR.out.kept hb4)
  clear hb4
  go_wp2_with fail
  obtain ⟨wx, hwx⟩ : ∃ wx, wx = w4 := ⟨_, rfl⟩
  have HBx : Hid (Blk wx w.heap.size 60 (pnt false z16 0)) := Lib.hid (hwx ▸ HBR4.out)
  have Hbx : Hid (Below w.heap.size w wx) := Lib.hid (hwx ▸ Hb4.out)
  rw [← hwx]
  clear hwx
  have HB5d : Hid (Blk wx.drew w.heap.size 60 (pnt false z16 0)) := Lib.hid (HBx.out.kept (below_drewN wx 1))
  have hform : wx.cell? ⟨0, 0, none⟩ = some E := cell_kept HF.out Hbx.out
  have hform2 : (wx.drew.setRow w.heap.size (pnt false z16 0)).cell? ⟨0, 0, none⟩ = some E := cell_kept HF.out (below_setRow (bel2 Hbx.out (below_drewN wx 1)) (Nat.le_refl _) _)
  refine wp_region_any (by kernel_rfl) ?_
  change wpAny _ _ _ _ _ _ _ (World.drew _)
  refine wpAny_take (i := 0) (v := .agg (pnt false z16 0)) rfl (by kernel_rfl) (by kernel_rfl) (by kernel_rfl) (fun _ _ _ h => h) (Or.inl ⟨by rfl, fun w => by kernel_rfl⟩) ?_
  refine wpAny_ready (rs := [1, 2]) (by kernel_rfl) (by simp) ?_
  refine AllReady.cons rfl (fun K hK => ?_) (AllReady.cons rfl (fun K hK => ?_) AllReady.nil)
  · refine step_run E wx.drew (by go_simp) rfl (hK _ _ ?_)
    refine wpAny_ready (rs := [2]) (by kernel_rfl) (by simp) ?_
    refine AllReady.cons rfl (fun K hK => ?_) AllReady.nil
    refine step_store 60 (.tmp 2) (.tmp 36) rfl w.heap.size (pnt false z16 0) rfl rfl 60 (pnt false z16 0) HB5d.out 18 Tryz.infoPoint rfl rfl (pnt_one _ _ _) rfl (hK _ _ ?_)
    refine wpAny_ready (rs := [3]) (by kernel_rfl) (by simp) ?_
    refine AllReady.cons rfl (fun K hK => ?_) AllReady.nil
    refine step_run E _ rfl rfl (hK _ _ ?_)
    refine wpAny_done (by kernel_rfl) ?_ _
    go_wp2
    exact retA2 rfl w.heap.size rfl _ _ _ (HB5d.out.row _) Tryz.underlying60 rfl 18 Tryz.infoPoint rfl rfl _ rfl ⟨rfl, below_setRow (bel2 Hbx.out (below_drewN wx 1)) (Nat.le_refl _) _⟩
  · refine step_store 60 (.tmp 2) (.tmp 36) rfl w.heap.size (pnt false z16 0) rfl rfl 60 (pnt false z16 0) HB5d.out 18 Tryz.infoPoint rfl rfl (pnt_one _ _ _) rfl (hK _ _ ?_)
    refine wpAny_ready (rs := [1]) (by kernel_rfl) (by simp) ?_
    refine AllReady.cons rfl (fun K hK => ?_) AllReady.nil
    refine step_run E (wx.drew.setRow w.heap.size (pnt false z16 0)) (by go_simp) rfl (hK _ _ ?_)
    refine wpAny_ready (rs := [3]) (by kernel_rfl) (by simp) ?_
    refine AllReady.cons rfl (fun K hK => ?_) AllReady.nil
    refine step_run E _ rfl rfl (hK _ _ ?_)
    refine wpAny_done (by kernel_rfl) ?_ _
    go_wp2
    exact retA2 rfl w.heap.size rfl _ _ _ (HB5d.out.row _) Tryz.underlying60 rfl 18 Tryz.infoPoint rfl rfl _ rfl ⟨rfl, below_setRow (bel2 Hbx.out (below_drewN wx 1)) (Nat.le_refl _) _⟩

set_option maxRecDepth 100000 in
set_option maxHeartbeats 4000000 in
theorem pp_tt (s hd tl : ByteArray) (k k1 : Nat) (e1 : IntKind.i64.wrap ((k : Int) + 1) = (k1 : Int)) (sa : Bool) (ab : List Int) (hl : ab.length = 16) (n : Int) (E : Value) (w : World) (hE : Env E w)
    (cL : ∀ w, Calls Tryz.prog 73 #[.string s, .string ⟨#[58]⟩] w fun e w' => e = .returned (.int .i64 (k : Int)) ∧ w' = w)
    (hsl1 : ∀ w, (Instr.sliceAt 9 (.string s) none (some (.int .i64 (k : Int))) none).run Tryz.prog w = .ok (.string hd) w)
    (hsl2 : ∀ w, (Instr.sliceAt 9 (.string s) (some (.int .i64 (k1 : Int))) none none).run Tryz.prog w = .ok (.string tl) w)
    (cA : ∀ w, Env E w → Calls Tryz.prog 74 #[.string hd] w fun e w' => e = .returned (.tuple #[.agg (adr sa ab), .bool true]) ∧ Below w.heap.size w w')
    (cF : ∀ w, Env E w → Calls Tryz.prog 75 #[.string tl] w fun e w' => e = .returned (.tuple #[.int .i64 n, .bool true]) ∧ Below w.heap.size w w') :
    Calls Tryz.prog 36 #[.string s] w fun e w' => e = .returned (.tuple #[.agg (pnt sa ab n), .nilIface]) ∧ Below w.heap.size w w' := by
  obtain ⟨W0, hW0⟩ : ∃ W, W = w.alloc (.cells (pnt false z16 0) 60) := ⟨_, rfl⟩
  have hBW0 : Blk W0 w.heap.size 60 (pnt false z16 0) := hW0 ▸ Blk.new w _ _
  have hbW0 : Below w.heap.size w W0 := hW0 ▸ (Below.refl _ _).alloc (Nat.le_refl _) _
  have HW0 : Hid (w.alloc (.cells #[.bool false, .int .u8 0, .int .u8 0, .int .u8 0, .int .u8 0, .int .u8 0, .int .u8 0, .int .u8 0, .int .u8 0, .int .u8 0, .int .u8 0, .int .u8 0, .int .u8 0, .int .u8 0, .int .u8 0, .int .u8 0, .int .u8 0, .int .i64 0] 60) = W0) := Lib.hid hW0.symm
  have HB0 := Lib.hid hBW0
  have Hb0 := Lib.hid hbW0
  have HE := Lib.hid hE
  have HF : Hid (w.cell? ⟨0, 0, none⟩ = some E) := Lib.hid hE.form
  have CL := Lib.hid cL
  have CA := Lib.hid cA
  have CF := Lib.hid cF
  have L17 : Hid (17 = (adr sa ab).size) := Lib.hid (by rw [adr_size, hl])
  have L18 : Hid (18 = (pnt sa ab n).size) := Lib.hid (by rw [pnt_size, hl])
  have HL := Lib.hid hl
  have hk0 : (decide ((k : Int) < 0)) = false := decide_eq_false (by omega)
  clear hW0 hBW0 hbW0 hE cL cA cF hl
  go_enter Tryz.func36, Tryz.ntmps36
  go_wp2_with fail
  rw [HW0.out]
  refine (CL.out W0).mono ?_
  rintro e w1 ⟨rfl, hw1⟩
  rw [hw1]
  clear hw1
  go_wp2_with fail
  refine (CA.out W0 (HE.out.kept Hb0.out)).mono ?_
  rintro e w2 ⟨rfl, hb2⟩
  have Hb2 := Lib.hid (bel2 Hb0.out hb2)
  have HB2 := Lib.hid (HB0.out.kept hb2)
  obtain ⟨W3, hW3⟩ : ∃ W, W = w2.alloc (.cells (adr false z16) 24) := ⟨_, rfl⟩
  have hBW3 : Blk W3 w2.heap.size 24 (adr false z16) := hW3 ▸ Blk.new w2 _ _
  have hbW3 : Below w2.heap.size w2 W3 := hW3 ▸ (Below.refl _ _).alloc (Nat.le_refl _) _
  have HW3 : Hid (w2.alloc (.cells #[.bool false, .int .u8 0, .int .u8 0, .int .u8 0, .int .u8 0, .int .u8 0, .int .u8 0, .int .u8 0, .int .u8 0, .int .u8 0, .int .u8 0, .int .u8 0, .int .u8 0, .int .u8 0, .int .u8 0, .int .u8 0, .int .u8 0] 24) = W3) := Lib.hid hW3.symm
  have HB3 := Lib.hid hBW3
  obtain ⟨V, hV⟩ : ∃ V, V = W3.setRow w2.heap.size (adr sa ab) := ⟨_, rfl⟩
  have HV := Lib.hid hV.symm
  have hsz : w.heap.size < w2.heap.size := HB2.out.lt
  have HBV : Hid (Blk V w2.heap.size 24 (adr sa ab)) := Lib.hid (hV ▸ hBW3.row _)
  have HBR : Hid (Blk V w.heap.size 60 (pnt false z16 0)) := Lib.hid (hV ▸ (HB2.out.kept hbW3).rowOther (by omega) _)
  have HbV : Hid (Below w.heap.size w V) := Lib.hid (hV ▸ below_setRow (bel2 Hb2.out hbW3) (by omega) _)
  clear hb2 hW3 hBW3 hbW3 hV
  go_wp2_with ((try rw [HW3.out]); refine wpl_store 24 _ _ rfl w2.heap.size (adr sa ab) rfl rfl _ _ HB3.out 17 Tryz.infoAddr L17.out rfl (adr_one _ _) rfl ?_; rw [HV.out])
  refine (CF.out V (HE.out.kept HbV.out)).mono ?_
  rintro e w4 ⟨rfl, hb4⟩
  have Hb4 := Lib.hid (bel2 HbV.out hb4)
  have HBA4 := Lib.hid (HBV.out.kept hb4)
  have HBR4 := Lib.hid (HBR.out.kept hb4)
  clear hb4
  go_wp2_with (first | (refine wpl_load 24 _ rfl w2.heap.size rfl _ _ _ HBA4.out Tryz.underlying24 rfl 17 Tryz.infoAddr L17.out rfl ?_) | (refine wpl_run (.agg (pnt sa ab n)) _ (exec_build_pnt (.tmp 38) (.tmp 39) rfl sa ab HL.out n rfl rfl _) rfl ?_) | (refine wpl_store 60 _ _ rfl w.heap.size (pnt sa ab n) rfl rfl _ _ HBR4.out 18 Tryz.infoPoint L18.out rfl (pnt_one _ _ _) rfl ?_))
  exact retA2 rfl w.heap.size rfl _ _ _ (HBR4.out.row _) Tryz.underlying60 rfl 18 Tryz.infoPoint L18.out rfl _ rfl ⟨rfl, below_setRow Hb4.out (Nat.le_refl _) _⟩

/-- A point, or an error. -/
def PEnd (E : Value) (r : Option ((Bool × List Int) × Nat)) (w : World) (e : Ending) (w' : World) : Prop :=
  (match r with
   | some (x, n) => e = .returned (.tuple #[.agg (pnt x.1 x.2 (n : Int)), .nilIface])
   | none => e = .returned (.tuple #[.agg (pnt false z16 0), E])) ∧ Below w.heap.size w w'

theorem pp_slice (s : ByteArray) (k k1 : Nat) (hk : k < s.size) (h1 : k1 = k + 1) :
    IntKind.i64.wrap ((k : Int) + 1) = (k1 : Int) ∧ (s.extract 0 k).data.toList = s.data.toList.take k ∧ (s.extract k1 s.size).data.toList = s.data.toList.drop k1 ∧
    (∀ w, (Instr.sliceAt 9 (.string s) none (some (.int .i64 (k : Int))) none).run Tryz.prog w = .ok (.string (s.extract 0 k)) w) ∧
    (∀ w, (Instr.sliceAt 9 (.string s) (some (.int .i64 (k1 : Int))) none none).run Tryz.prog w = .ok (.string (s.extract k1 s.size)) w) ∨ ¬ s.size ≤ 1000 := by
  by_cases hs : s.size ≤ 1000
  · left
    have b0 : (0 : Int) ≤ (k : Int) := by omega
    have b1 : (k : Int) ≤ (s.size : Int) := by omega
    have b2 : (0 : Int) ≤ (k1 : Int) := by omega
    have b3 : (k1 : Int) ≤ (s.size : Int) := by omega
    refine ⟨by simp only [IntKind.wrap, IntKind.signed, IntKind.bits]; simp; omega, by simp [List.extract_eq_take_drop], ?_, fun w => by simp [Instr.sliceAt, run_underlying Tryz.underlying9, Instr.sliceBounds, go_sem, b0, b1], fun w => by simp [Instr.sliceAt, run_underlying Tryz.underlying9, Instr.sliceBounds, go_sem, b2, b3]⟩
    have : s.size = s.data.toList.length := Lib.size_eq s
    simp [List.extract_eq_take_drop]
    rw [List.take_of_length_le]
    rw [List.length_drop, ← this]
    exact Nat.le_refl _
  · exact .inr hs

theorem pparse_any (s : ByteArray) (hs : s.size ≤ 1000) (ue : TypeId) (pe : Value) (w : World) (hE : Env (.iface ue pe) w) :
    Calls Tryz.prog 36 #[.string s] w (PEnd (.iface ue pe) (pres s.data.toList) w) := by
  have cL : ∀ w, Calls Tryz.prog 73 #[.string s, .string ⟨#[58]⟩] w fun e w' => e = .returned (.int .i64 (Lib.lastIndex s.data.toList [58])) ∧ w' = w := fun w => Tryz.strings_LastIndex s ⟨#[58]⟩ (by omega) w
  unfold PEnd pres
  rcases last_cases s.data.toList with ⟨h1, _⟩ | ⟨k, h1, h2, h3, h4⟩
  · rw [h1] at cL ⊢
    rw [if_pos (by omega)]
    exact pp_no s _ w hE cL
  · rw [h1] at cL ⊢
    rw [if_neg (by omega), Int.toNat_natCast]
    rw [← Lib.size_eq] at h4
    obtain ⟨k1, hk1⟩ : ∃ k1, k1 = k + 1 := ⟨_, rfl⟩
    rcases pp_slice s k k1 h4 hk1 with ⟨e1, x1, x2, hsl1, hsl2⟩ | h
    · rw [← hk1]
      have cA := fun w hE => paddr_any (s.extract 0 k) (by rw [Lib.size_eq, x1, List.length_take, ← Lib.size_eq]; omega) ue pe w hE
      have cF := fun w hE => pport_any (s.extract k1 s.size) (by rw [Lib.size_eq, x2, List.length_drop, ← Lib.size_eq]; omega) (.iface ue pe) w hE
      unfold POpt at cA
      rw [x1] at cA
      rw [x2] at cF
      cases ha : paddr (s.data.toList.take k) with
      | none =>
        rw [ha] at cA
        cases hf : port (s.data.toList.drop k1) with
        | none => rw [hf] at cF; exact pp_ff s _ _ k k1 e1 false z16 rfl _ _ w hE cL hsl1 hsl2 cA cF
        | some n => rw [hf] at cF; exact pp_ft s _ _ k k1 e1 false z16 rfl _ _ w hE cL hsl1 hsl2 cA cF
      | some x =>
        obtain ⟨sx, bx⟩ := x
        have hl : bx.length = 16 := by
          unfold paddr at ha
          split at ha
          · rename_i hq
            split at ha
            · cases ha
              exact parsed_len hq
            · cases ha
          · cases ha
        rw [ha] at cA
        cases hf : port (s.data.toList.drop k1) with
        | none => rw [hf] at cF; exact pp_tf s _ _ k k1 e1 sx bx hl _ _ w hE cL hsl1 hsl2 cA cF
        | some n => rw [hf] at cF; exact pp_tt s _ _ k k1 e1 sx bx hl _ _ w hE cL hsl1 hsl2 cA cF
    · exact absurd hs h
end Go.Proofs.YtnfkgoeocebenaaGreatDoor
