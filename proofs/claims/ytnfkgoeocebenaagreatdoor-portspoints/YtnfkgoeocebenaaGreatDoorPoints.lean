/-
  The walk of the law PortsPoints.
-/
import Derived.Test.YtnfkgoeocebenaaGreatDoorPfmt
import Derived.Test.YtnfkgoeocebenaaGreatDoorPalive
namespace Go.Proofs.YtnfkgoeocebenaaGreatDoor
open Go.RowKit

theorem exec_sneq2 {P : Program} {a : Act} {w : World} {o : Oper} (t t' : TypeId) (x y : Operand) (ho : o.op = .binOp .neq t x y t') (s : ByteArray) (hx : a.eval x = .string s) (hy : a.eval y = .string s) :
    (execOp a.eval o).run P w = .ok (.value (.bool false)) w := by
  unfold execOp
  simp only [ho, hx, hy, eqGuard, binOp]
  simp [Op.stringOp, go_sem]
theorem run_neq_pnt (s : Bool) (b : List Int) (hl : b.length = 16) (n : Int) (w : World) : (binOp .neq 60 (.agg (pnt s b n)) (.agg (pnt s b n))).run Tryz.prog w = .ok (.bool false) w := by
  rw [run_neq_struct, equalIn_pnt 9996 s s b b n n hl hl, show ((s == s && b == b) && n == n) = true by simp]
  rfl

set_option maxRecDepth 100000 in
set_option maxHeartbeats 1000000 in
theorem pts_long (s : ByteArray) (hs : 200 < s.size) (cs : Bool) (cb : List Int) (n : Int) (E : Value) (w : World) (hE : Env E w)
    (c0 : ∀ w, Env E w → Calls Tryz.prog 35 #[] w fun e w' => e = .returned (.bool true) ∧ Below w.heap.size w w') :
    Calls Tryz.prog 6 #[.agg (pnt cs cb n), .string s] w fun e w' => e = .returned (.bool true) ∧ Below w.heap.size w w' := by
  obtain ⟨W0, hW0⟩ : ∃ W, W = w.alloc (.cells (pnt cs cb n) 60) := ⟨_, rfl⟩
  have hb0 : Below w.heap.size w W0 := hW0 ▸ (Below.refl _ _).alloc (Nat.le_refl _) _
  have HW0 := Lib.hid hW0.symm
  have C0 := Lib.hid (c0 W0 (hE.kept hb0))
  clear hW0 hE c0
  go_enter Tryz.func6, Tryz.ntmps6
  go_upto_region 1 with fail
  rw [HW0.out]
  go_wp2_with fail
  refine C0.out.mono ?_
  rintro e w1 ⟨rfl, hb1⟩
  go_wp2
  go_ret
  exact ⟨rfl, bel2 hb0 hb1⟩

set_option linter.unusedSimpArgs false in
set_option maxRecDepth 100000 in
set_option maxHeartbeats 8000000 in
theorem pts_true (s : ByteArray) (hs : s.size ≤ 200) (cs : Bool) (cb : List Int) (hlc : cb.length = 16) (n : Int) (xs : Bool) (xb : List Int) (hlx : xb.length = 16) (xn : Int) (R : Bool) (T : ByteArray) (E : Value) (w : World) (hE : Env E w)
    (c0 : ∀ w, Env E w → Calls Tryz.prog 35 #[] w fun e w' => e = .returned (.bool true) ∧ Below w.heap.size w w')
    (cA : ∀ w, Env E w → Calls Tryz.prog 36 #[.string s] w fun e w' => e = .returned (.tuple #[.agg (pnt xs xb xn), .nilIface]) ∧ Below w.heap.size w w')
    (cB : ∀ w, Calls Tryz.prog 37 #[.string s] w fun e w' => e = .returned (.tuple #[.agg (pnt xs xb xn), .bool true]) ∧ Below w.heap.size w w')
    (c1 : ∀ w, Calls Tryz.prog 39 #[.agg (pnt cs cb n)] w fun e w' => e = .returned (.bool R) ∧ Below w.heap.size w w')
    (c2 : ∀ w, Calls Tryz.prog 40 #[.agg (pnt cs cb n)] w fun e w' => e = .returned (.bool R) ∧ Below w.heap.size w w')
    (c3 : ∀ w, Env E w → Calls Tryz.prog 38 #[.agg (pnt cs cb n)] w fun e w' => e = .returned (.string T) ∧ Below w.heap.size w w')
    (c4 : ∀ w, Calls Tryz.prog 41 #[.agg (pnt cs cb n)] w fun e w' => e = .returned (.string T) ∧ Below w.heap.size w w')
    (c5 : R = true → ∀ w, Env E w → Calls Tryz.prog 36 #[.string T] w fun e w' => e = .returned (.tuple #[.agg (pnt cs cb n), .nilIface]) ∧ Below w.heap.size w w') :
    Calls Tryz.prog 6 #[.agg (pnt cs cb n), .string s] w fun e w' => e = .returned (.bool true) ∧ Below w.heap.size w w' := by
  obtain ⟨W0, hW0⟩ : ∃ W, W = w.alloc (.cells (pnt cs cb n) 60) := ⟨_, rfl⟩
  have hB0 : Blk W0 w.heap.size 60 (pnt cs cb n) := hW0 ▸ Blk.new w _ _
  have hb0 : Below w.heap.size w W0 := hW0 ▸ (Below.refl _ _).alloc (Nat.le_refl _) _
  have HW0 := Lib.hid hW0.symm
  have HB0 := Lib.hid hB0
  have Hb0 := Lib.hid hb0
  have HE := Lib.hid hE
  have L18c : Hid (18 = (pnt cs cb n).size) := Lib.hid (by rw [pnt_size, hlc])
  have L18x : Hid (18 = (pnt xs xb xn).size) := Lib.hid (by rw [pnt_size, hlx])
  have C0 := Lib.hid c0
  have CA := Lib.hid cA
  have CB := Lib.hid cB
  have C1 := Lib.hid c1
  have C2 := Lib.hid c2
  have C3 := Lib.hid c3
  have C4 := Lib.hid c4
  have C5 := Lib.hid c5
  have hqx := run_neq_pnt xs xb hlx xn
  have HQ := Lib.hid (eql_pnt cs cs cb cb n n hlc hlc)
  clear hW0 hB0 hb0 hE hlc hlx c0 cA cB c1 c2 c3 c4 c5
  go_enter Tryz.func6, Tryz.ntmps6
  go_upto_region 1 with fail
  rw [HW0.out]
  go_wp2_with fail
  refine (C0.out W0 (HE.out.kept Hb0.out)).mono ?_
  rintro e w1 ⟨rfl, hb1⟩
  have HB1 := Lib.hid (HB0.out.kept hb1)
  have Hb1 := Lib.hid (bel2 Hb0.out hb1)
  clear hb1
  go_wp2_with fail
  refine (CA.out w1 (HE.out.kept Hb1.out)).mono ?_
  rintro e w2 ⟨rfl, hb2⟩
  have HB2 := Lib.hid (HB1.out.kept hb2)
  have Hb2 := Lib.hid (bel2 Hb1.out hb2)
  clear hb2
  obtain ⟨W3, hW3⟩ : ∃ W, W = w2.alloc (.cells (pnt false z16 0) 60) := ⟨_, rfl⟩
  have hBW3 : Blk W3 w2.heap.size 60 (pnt false z16 0) := hW3 ▸ Blk.new w2 _ _
  have hbW3 : Below w2.heap.size w2 W3 := hW3 ▸ (Below.refl _ _).alloc (Nat.le_refl _) _
  have HW3 : Hid (w2.alloc (.cells #[.bool false, .int .u8 0, .int .u8 0, .int .u8 0, .int .u8 0, .int .u8 0, .int .u8 0, .int .u8 0, .int .u8 0, .int .u8 0, .int .u8 0, .int .u8 0, .int .u8 0, .int .u8 0, .int .u8 0, .int .u8 0, .int .u8 0, .int .i64 0] 60) = W3) := Lib.hid hW3.symm
  have HBW3 := Lib.hid hBW3
  obtain ⟨V3, hV3⟩ : ∃ V, V = W3.setRow w2.heap.size (pnt xs xb xn) := ⟨_, rfl⟩
  have HV3 := Lib.hid hV3.symm
  have hblV3 : Below w2.heap.size w2 V3 := hV3 ▸ below_setRow hbW3 (Nat.le_refl _) _
  have HNV3 : Hid (Blk V3 w2.heap.size 60 (pnt xs xb xn)) := Lib.hid (hV3 ▸ hBW3.row _)
  have hsz2 : w.heap.size < w2.heap.size := HB2.out.lt
  have HB3 := Lib.hid (HB2.out.kept hblV3)
  have Hb3 : Hid (Below w.heap.size w V3) := Lib.hid (bel2 Hb2.out hblV3)
  clear hW3 hBW3 hbW3 hV3 hblV3
  go_wp2_with ((try rw [HW3.out]); refine wpl_store 60 _ _ rfl w2.heap.size (pnt xs xb xn) rfl rfl _ _ HBW3.out 18 Tryz.infoPoint L18x.out rfl (pnt_one _ _ _) rfl ?_; rw [HV3.out])
  refine (CB.out V3).mono ?_
  rintro e w4 ⟨rfl, hb4⟩
  have HB4 := Lib.hid (HB3.out.kept hb4)
  have HX4 := Lib.hid (HNV3.out.kept hb4)
  have Hb4 := Lib.hid (bel2 Hb3.out hb4)
  clear hb4
  obtain ⟨W5, hW5⟩ : ∃ W, W = w4.alloc (.cells (pnt false z16 0) 60) := ⟨_, rfl⟩
  have hBW5 : Blk W5 w4.heap.size 60 (pnt false z16 0) := hW5 ▸ Blk.new w4 _ _
  have hbW5 : Below w4.heap.size w4 W5 := hW5 ▸ (Below.refl _ _).alloc (Nat.le_refl _) _
  have HW5 : Hid (w4.alloc (.cells #[.bool false, .int .u8 0, .int .u8 0, .int .u8 0, .int .u8 0, .int .u8 0, .int .u8 0, .int .u8 0, .int .u8 0, .int .u8 0, .int .u8 0, .int .u8 0, .int .u8 0, .int .u8 0, .int .u8 0, .int .u8 0, .int .u8 0, .int .i64 0] 60) = W5) := Lib.hid hW5.symm
  have HBW5 := Lib.hid hBW5
  obtain ⟨V5, hV5⟩ : ∃ V, V = W5.setRow w4.heap.size (pnt xs xb xn) := ⟨_, rfl⟩
  have HV5 := Lib.hid hV5.symm
  have hblV5 : Below w4.heap.size w4 V5 := hV5 ▸ below_setRow hbW5 (Nat.le_refl _) _
  have HNV5 : Hid (Blk V5 w4.heap.size 60 (pnt xs xb xn)) := Lib.hid (hV5 ▸ hBW5.row _)
  have HB5 := Lib.hid (HB4.out.kept hblV5)
  have HX5 := Lib.hid (HX4.out.kept hblV5)
  have Hb5 : Hid (Below w.heap.size w V5) := Lib.hid (bel2 Hb4.out hblV5)
  clear hW5 hBW5 hbW5 hV5 hblV5
  go_wp2_with ((try rw [HW5.out]); first | (refine wpl_store 60 _ _ rfl w4.heap.size (pnt xs xb xn) rfl rfl _ _ HBW5.out 18 Tryz.infoPoint L18x.out rfl (pnt_one _ _ _) rfl ?_; rw [HV5.out]) | (refine wpl_load 60 _ rfl w2.heap.size rfl _ _ _ HX5.out Tryz.underlying60 rfl 18 Tryz.infoPoint L18x.out rfl ?_) | (refine wpl_load 60 _ rfl w4.heap.size rfl _ _ _ HNV5.out Tryz.underlying60 rfl 18 Tryz.infoPoint L18x.out rfl ?_) | (refine wpl_load 60 _ rfl w.heap.size rfl _ _ _ HB5.out Tryz.underlying60 rfl 18 Tryz.infoPoint L18c.out rfl ?_))
  refine (C3.out V5 (HE.out.kept Hb5.out)).mono ?_
  rintro e w7 ⟨rfl, hb7⟩
  have hS0 : Blk w7.drew (w.heap.size) 60 (pnt cs cb n) ∧ Env E w7.drew ∧ Below w.heap.size w w7.drew := by
    have hbd := bel2 hb7 (below_drewN w7 1)
    exact ⟨HB5.out.kept hbd, HE.out.kept (bel2 Hb5.out hbd), bel2 Hb5.out hbd⟩
  clear hb7
  go_wp2_with fail
  refine wp_region_held_drew (S := fun w' => Blk w' (w.heap.size) 60 (pnt cs cb n) ∧ Env E w' ∧ Below w.heap.size w w') (by kernel_rfl) hS0 (fun hS => ?_)
  change wpAnyH _ _ _ _ _ 11 #[false, false, false, false, false, false, false, false, false, false, false] _ _
  refine wpAnyH_take (i := 0) (v := .agg (pnt cs cb n)) rfl (by kernel_rfl) (by kernel_rfl) (by kernel_rfl) (fun _ _ _ h => h) (yields_load 60 (.tmp 2) rfl (w.heap.size) (by kernel_rfl) _ _ _ (fun w h => h.1) Tryz.underlying60 rfl 18 Tryz.infoPoint L18c.out (by kernel_rfl)) hS ?_
  simp only [List.getElem_toArray, List.getElem_cons_zero, List.getElem_cons_succ, Act.put, List.setIfInBounds_toArray, List.set_cons_zero, List.set_cons_succ]
  refine wpAnyH_take (i := 2) (v := .agg (pnt cs cb n)) rfl (by kernel_rfl) (by kernel_rfl) (by kernel_rfl) (fun _ _ _ h => h) (yields_load 60 (.tmp 2) rfl (w.heap.size) (by kernel_rfl) _ _ _ (fun w h => h.1) Tryz.underlying60 rfl 18 Tryz.infoPoint L18c.out (by kernel_rfl)) hS ?_
  simp only [List.getElem_toArray, List.getElem_cons_zero, List.getElem_cons_succ, Act.put, List.setIfInBounds_toArray, List.set_cons_zero, List.set_cons_succ]
  refine wpAnyH_ready (rs := [1]) (by kernel_rfl) (by simp) ?_
  refine AllReadyH.cons rfl (fun K' hK => ?_) AllReadyH.nil
  refine step_call 39 #[.agg (pnt cs cb n)] (by kernel_rfl) (by kernel_rfl) (.bool R) (C1.out _) (fun v2 hv2 => hK.out _ _ (⟨hS.1.kept hv2, hS.2.1.kept hv2, bel2 hS.2.2 hv2⟩) (fun hS => ?_))
  simp only [List.getElem_toArray, List.getElem_cons_zero, List.getElem_cons_succ, Act.put, List.setIfInBounds_toArray, List.set_cons_zero, List.set_cons_succ]
  refine wpAnyH_ready (rs := [3]) (by kernel_rfl) (by simp) ?_
  refine AllReadyH.cons rfl (fun K' hK => ?_) AllReadyH.nil
  refine step_call 40 #[.agg (pnt cs cb n)] (by kernel_rfl) (by kernel_rfl) (.bool R) (C2.out _) (fun v3 hv3 => hK.out _ _ (⟨hS.1.kept hv3, hS.2.1.kept hv3, bel2 hS.2.2 hv3⟩) (fun hS => ?_))
  simp only [List.getElem_toArray, List.getElem_cons_zero, List.getElem_cons_succ, Act.put, List.setIfInBounds_toArray, List.set_cons_zero, List.set_cons_succ]
  refine wpAnyH_take (i := 4) (v := .bool false) rfl (by kernel_rfl) (by kernel_rfl) (by kernel_rfl) (fun _ _ _ h => h) (.inl ⟨by kernel_rfl, fun w _ => by cases R <;> kernel_rfl⟩) hS ?_
  simp only [List.getElem_toArray, List.getElem_cons_zero, List.getElem_cons_succ, Act.put, List.setIfInBounds_toArray, List.set_cons_zero, List.set_cons_succ]
  refine wpAnyH_take (i := 5) (v := .bool false) rfl (by kernel_rfl) (by kernel_rfl) (by kernel_rfl) (fun _ _ _ h => h) (.inl ⟨by kernel_rfl, fun w _ => by kernel_rfl⟩) hS ?_
  simp only [List.getElem_toArray, List.getElem_cons_zero, List.getElem_cons_succ, Act.put, List.setIfInBounds_toArray, List.set_cons_zero, List.set_cons_succ]
  refine wpAnyH_take (i := 6) (v := .string T) rfl (by kernel_rfl) (by kernel_rfl) (by kernel_rfl) (fun _ _ _ h => h) (.inl ⟨by kernel_rfl, fun w _ => by kernel_rfl⟩) hS ?_
  simp only [List.getElem_toArray, List.getElem_cons_zero, List.getElem_cons_succ, Act.put, List.setIfInBounds_toArray, List.set_cons_zero, List.set_cons_succ]
  refine wpAnyH_take (i := 7) (v := .agg (pnt cs cb n)) rfl (by kernel_rfl) (by kernel_rfl) (by kernel_rfl) (fun _ _ _ h => h) (yields_load 60 (.tmp 2) rfl (w.heap.size) (by kernel_rfl) _ _ _ (fun w h => h.1) Tryz.underlying60 rfl 18 Tryz.infoPoint L18c.out (by kernel_rfl)) hS ?_
  simp only [List.getElem_toArray, List.getElem_cons_zero, List.getElem_cons_succ, Act.put, List.setIfInBounds_toArray, List.set_cons_zero, List.set_cons_succ]
  refine wpAnyH_ready (rs := [8]) (by kernel_rfl) (by simp) ?_
  refine AllReadyH.cons rfl (fun K' hK => ?_) AllReadyH.nil
  rw [if_pos (by kernel_rfl)]
  refine op_call2 41 #[.agg (pnt cs cb n)] (by kernel_rfl) (.string T) (C4.out _) (fun v5 hv5 => hK.out _ _ (⟨hS.1.kept hv5, hS.2.1.kept hv5, bel2 hS.2.2 hv5⟩) (fun hS => ?_))
  simp only [List.getElem_toArray, List.getElem_cons_zero, List.getElem_cons_succ, Act.put, List.setIfInBounds_toArray, List.set_cons_zero, List.set_cons_succ]
  refine wpAnyH_take (i := 9) (v := .bool false) rfl (by kernel_rfl) (by kernel_rfl) (by kernel_rfl) (fun _ _ _ h => h) (.inl ⟨by kernel_rfl, fun w _ => exec_sneq2 9 9 (.tmp 52) (.tmp 54) rfl T (by kernel_rfl) (by kernel_rfl)⟩) hS ?_
  simp only [List.getElem_toArray, List.getElem_cons_zero, List.getElem_cons_succ, Act.put, List.setIfInBounds_toArray, List.set_cons_zero, List.set_cons_succ]
  refine wpAnyH_take (i := 10) (v := .bool false) rfl (by kernel_rfl) (by kernel_rfl) (by kernel_rfl) (fun _ _ _ h => h) (.inl ⟨by kernel_rfl, fun w _ => by kernel_rfl⟩) hS ?_
  simp only [List.getElem_toArray, List.getElem_cons_zero, List.getElem_cons_succ, Act.put, List.setIfInBounds_toArray, List.set_cons_zero, List.set_cons_succ]
  refine wpAnyH_done (by kernel_rfl) ?_ _
  have HS := Lib.hid hS
  clear hS
  have HBc : Hid (Blk v5 (w.heap.size) 60 (pnt cs cb n)) := Lib.hid HS.out.1
  go_wp2_with (refine wpl_load 60 _ rfl w.heap.size rfl _ _ _ HBc.out Tryz.underlying60 rfl 18 Tryz.infoPoint L18c.out rfl ?_)
  refine (C2.out v5).mono ?_
  rintro e v6 ⟨rfl, hb6⟩
  have HBc6 := Lib.hid (HBc.out.kept hb6)
  have HE6 : Hid (Env E v6 ∧ Below w.heap.size w v6) := Lib.hid ⟨HS.out.2.1.kept hb6, bel2 HS.out.2.2 hb6⟩
  clear hb6 HS HBc
  cases R with
  | false =>
    go_wp2
    go_ret
    exact ⟨rfl, HE6.out.2⟩
  | true =>
    go_wp2_with fail
    refine (C5.out (by simp) v6 HE6.out.1).mono ?_
    rintro e v8 ⟨rfl, hb8⟩
    have HBc8 := Lib.hid (HBc6.out.kept hb8)
    have Hb8 := Lib.hid (bel2 HE6.out.2 hb8)
    clear hb8
    obtain ⟨W9, hW9⟩ : ∃ W, W = v8.alloc (.cells (pnt false z16 0) 60) := ⟨_, rfl⟩
    have hBW9 : Blk W9 v8.heap.size 60 (pnt false z16 0) := hW9 ▸ Blk.new v8 _ _
    have hbW9 : Below v8.heap.size v8 W9 := hW9 ▸ (Below.refl _ _).alloc (Nat.le_refl _) _
    have HW9 : Hid (v8.alloc (.cells #[.bool false, .int .u8 0, .int .u8 0, .int .u8 0, .int .u8 0, .int .u8 0, .int .u8 0, .int .u8 0, .int .u8 0, .int .u8 0, .int .u8 0, .int .u8 0, .int .u8 0, .int .u8 0, .int .u8 0, .int .u8 0, .int .u8 0, .int .i64 0] 60) = W9) := Lib.hid hW9.symm
    have HBW9 := Lib.hid hBW9
    obtain ⟨V9, hV9⟩ : ∃ V, V = W9.setRow v8.heap.size (pnt cs cb n) := ⟨_, rfl⟩
    have HV9 := Lib.hid hV9.symm
    have hblV9 : Below v8.heap.size v8 V9 := hV9 ▸ below_setRow hbW9 (Nat.le_refl _) _
    have HNV9 : Hid (Blk V9 v8.heap.size 60 (pnt cs cb n)) := Lib.hid (hV9 ▸ hBW9.row _)
    have HBc9 := Lib.hid (HBc8.out.kept hblV9)
    have Hb9 : Hid (Below w.heap.size w V9) := Lib.hid (bel2 Hb8.out hblV9)
    have hq : ∀ w, (binOp .eql 60 (.agg (pnt cs cb n)) (.agg (pnt cs cb n))).run Tryz.prog w = .ok (.bool true) w := fun w => by
      have := HQ.out w
      rw [show ((cs == cs && cb == cb) && n == n) = true by simp] at this
      exact this
    clear hW9 hBW9 hbW9 hV9 hblV9
    go_wp2_with ((try rw [HW9.out]); first | (refine wpl_store 60 _ _ rfl v8.heap.size (pnt cs cb n) rfl rfl _ _ HBW9.out 18 Tryz.infoPoint L18c.out rfl (pnt_one _ _ _) rfl ?_; rw [HV9.out]) | (refine wpl_load 60 _ rfl v8.heap.size rfl _ _ _ HNV9.out Tryz.underlying60 rfl 18 Tryz.infoPoint L18c.out rfl ?_) | (refine wpl_load 60 _ rfl w.heap.size rfl _ _ _ HBc9.out Tryz.underlying60 rfl 18 Tryz.infoPoint L18c.out rfl ?_))
    go_ret
    exact ⟨rfl, Hb9.out⟩

set_option linter.unusedSimpArgs false in
set_option maxRecDepth 100000 in
set_option maxHeartbeats 8000000 in
theorem pts_false (s : ByteArray) (hs : s.size ≤ 200) (cs : Bool) (cb : List Int) (hlc : cb.length = 16) (n : Int) (xs : Bool) (xb : List Int) (hlx : xb.length = 16) (xn : Int) (ue : TypeId) (pe : Value) (R : Bool) (T : ByteArray) (E : Value) (w : World) (hE : Env E w)
    (c0 : ∀ w, Env E w → Calls Tryz.prog 35 #[] w fun e w' => e = .returned (.bool true) ∧ Below w.heap.size w w')
    (cA : ∀ w, Env E w → Calls Tryz.prog 36 #[.string s] w fun e w' => e = .returned (.tuple #[.agg (pnt xs xb xn), (.iface ue pe)]) ∧ Below w.heap.size w w')
    (cB : ∀ w, Calls Tryz.prog 37 #[.string s] w fun e w' => e = .returned (.tuple #[.agg (pnt xs xb xn), .bool false]) ∧ Below w.heap.size w w')
    (cN : ∀ w', Below w.heap.size w w' → Calls Tryz.prog 15 #[(.iface ue pe)] w' fun e w2 => e = .returned (.int .i64 4) ∧ Below w'.heap.size w' w2)
    (c1 : ∀ w, Calls Tryz.prog 39 #[.agg (pnt cs cb n)] w fun e w' => e = .returned (.bool R) ∧ Below w.heap.size w w')
    (c2 : ∀ w, Calls Tryz.prog 40 #[.agg (pnt cs cb n)] w fun e w' => e = .returned (.bool R) ∧ Below w.heap.size w w')
    (c3 : ∀ w, Env E w → Calls Tryz.prog 38 #[.agg (pnt cs cb n)] w fun e w' => e = .returned (.string T) ∧ Below w.heap.size w w')
    (c4 : ∀ w, Calls Tryz.prog 41 #[.agg (pnt cs cb n)] w fun e w' => e = .returned (.string T) ∧ Below w.heap.size w w')
    (c5 : R = true → ∀ w, Env E w → Calls Tryz.prog 36 #[.string T] w fun e w' => e = .returned (.tuple #[.agg (pnt cs cb n), .nilIface]) ∧ Below w.heap.size w w') :
    Calls Tryz.prog 6 #[.agg (pnt cs cb n), .string s] w fun e w' => e = .returned (.bool true) ∧ Below w.heap.size w w' := by
  obtain ⟨W0, hW0⟩ : ∃ W, W = w.alloc (.cells (pnt cs cb n) 60) := ⟨_, rfl⟩
  have hB0 : Blk W0 w.heap.size 60 (pnt cs cb n) := hW0 ▸ Blk.new w _ _
  have hb0 : Below w.heap.size w W0 := hW0 ▸ (Below.refl _ _).alloc (Nat.le_refl _) _
  have HW0 := Lib.hid hW0.symm
  have HB0 := Lib.hid hB0
  have Hb0 := Lib.hid hb0
  have HE := Lib.hid hE
  have L18c : Hid (18 = (pnt cs cb n).size) := Lib.hid (by rw [pnt_size, hlc])
  have L18x : Hid (18 = (pnt xs xb xn).size) := Lib.hid (by rw [pnt_size, hlx])
  have C0 := Lib.hid c0
  have CA := Lib.hid cA
  have CB := Lib.hid cB
  have CN := Lib.hid cN
  have C1 := Lib.hid c1
  have C2 := Lib.hid c2
  have C3 := Lib.hid c3
  have C4 := Lib.hid c4
  have C5 := Lib.hid c5
  have hqx := run_neq_pnt xs xb hlx xn
  have HQ := Lib.hid (eql_pnt cs cs cb cb n n hlc hlc)
  clear hW0 hB0 hb0 hE hlc hlx c0 cA cB cN c1 c2 c3 c4 c5
  go_enter Tryz.func6, Tryz.ntmps6
  go_upto_region 1 with fail
  rw [HW0.out]
  go_wp2_with fail
  refine (C0.out W0 (HE.out.kept Hb0.out)).mono ?_
  rintro e w1 ⟨rfl, hb1⟩
  have HB1 := Lib.hid (HB0.out.kept hb1)
  have Hb1 := Lib.hid (bel2 Hb0.out hb1)
  clear hb1
  go_wp2_with fail
  refine (CA.out w1 (HE.out.kept Hb1.out)).mono ?_
  rintro e w2 ⟨rfl, hb2⟩
  have HB2 := Lib.hid (HB1.out.kept hb2)
  have Hb2 := Lib.hid (bel2 Hb1.out hb2)
  clear hb2
  obtain ⟨W3, hW3⟩ : ∃ W, W = w2.alloc (.cells (pnt false z16 0) 60) := ⟨_, rfl⟩
  have hBW3 : Blk W3 w2.heap.size 60 (pnt false z16 0) := hW3 ▸ Blk.new w2 _ _
  have hbW3 : Below w2.heap.size w2 W3 := hW3 ▸ (Below.refl _ _).alloc (Nat.le_refl _) _
  have HW3 : Hid (w2.alloc (.cells #[.bool false, .int .u8 0, .int .u8 0, .int .u8 0, .int .u8 0, .int .u8 0, .int .u8 0, .int .u8 0, .int .u8 0, .int .u8 0, .int .u8 0, .int .u8 0, .int .u8 0, .int .u8 0, .int .u8 0, .int .u8 0, .int .u8 0, .int .i64 0] 60) = W3) := Lib.hid hW3.symm
  have HBW3 := Lib.hid hBW3
  obtain ⟨V3, hV3⟩ : ∃ V, V = W3.setRow w2.heap.size (pnt xs xb xn) := ⟨_, rfl⟩
  have HV3 := Lib.hid hV3.symm
  have hblV3 : Below w2.heap.size w2 V3 := hV3 ▸ below_setRow hbW3 (Nat.le_refl _) _
  have HNV3 : Hid (Blk V3 w2.heap.size 60 (pnt xs xb xn)) := Lib.hid (hV3 ▸ hBW3.row _)
  have hsz2 : w.heap.size < w2.heap.size := HB2.out.lt
  have HB3 := Lib.hid (HB2.out.kept hblV3)
  have Hb3 : Hid (Below w.heap.size w V3) := Lib.hid (bel2 Hb2.out hblV3)
  clear hW3 hBW3 hbW3 hV3 hblV3
  go_wp2_with ((try rw [HW3.out]); refine wpl_store 60 _ _ rfl w2.heap.size (pnt xs xb xn) rfl rfl _ _ HBW3.out 18 Tryz.infoPoint L18x.out rfl (pnt_one _ _ _) rfl ?_; rw [HV3.out])
  refine (CB.out V3).mono ?_
  rintro e w4 ⟨rfl, hb4⟩
  have HB4 := Lib.hid (HB3.out.kept hb4)
  have HX4 := Lib.hid (HNV3.out.kept hb4)
  have Hb4 := Lib.hid (bel2 Hb3.out hb4)
  clear hb4
  obtain ⟨W5, hW5⟩ : ∃ W, W = w4.alloc (.cells (pnt false z16 0) 60) := ⟨_, rfl⟩
  have hBW5 : Blk W5 w4.heap.size 60 (pnt false z16 0) := hW5 ▸ Blk.new w4 _ _
  have hbW5 : Below w4.heap.size w4 W5 := hW5 ▸ (Below.refl _ _).alloc (Nat.le_refl _) _
  have HW5 : Hid (w4.alloc (.cells #[.bool false, .int .u8 0, .int .u8 0, .int .u8 0, .int .u8 0, .int .u8 0, .int .u8 0, .int .u8 0, .int .u8 0, .int .u8 0, .int .u8 0, .int .u8 0, .int .u8 0, .int .u8 0, .int .u8 0, .int .u8 0, .int .u8 0, .int .i64 0] 60) = W5) := Lib.hid hW5.symm
  have HBW5 := Lib.hid hBW5
  obtain ⟨V5, hV5⟩ : ∃ V, V = W5.setRow w4.heap.size (pnt xs xb xn) := ⟨_, rfl⟩
  have HV5 := Lib.hid hV5.symm
  have hblV5 : Below w4.heap.size w4 V5 := hV5 ▸ below_setRow hbW5 (Nat.le_refl _) _
  have HNV5 : Hid (Blk V5 w4.heap.size 60 (pnt xs xb xn)) := Lib.hid (hV5 ▸ hBW5.row _)
  have HB5 := Lib.hid (HB4.out.kept hblV5)
  have HX5 := Lib.hid (HX4.out.kept hblV5)
  have Hb5 : Hid (Below w.heap.size w V5) := Lib.hid (bel2 Hb4.out hblV5)
  clear hW5 hBW5 hbW5 hV5 hblV5
  go_wp2_with ((try rw [HW5.out]); first | (refine wpl_store 60 _ _ rfl w4.heap.size (pnt xs xb xn) rfl rfl _ _ HBW5.out 18 Tryz.infoPoint L18x.out rfl (pnt_one _ _ _) rfl ?_; rw [HV5.out]) | (refine wpl_load 60 _ rfl w2.heap.size rfl _ _ _ HX5.out Tryz.underlying60 rfl 18 Tryz.infoPoint L18x.out rfl ?_) | (refine wpl_load 60 _ rfl w4.heap.size rfl _ _ _ HNV5.out Tryz.underlying60 rfl 18 Tryz.infoPoint L18x.out rfl ?_))
  refine (CN.out V5 Hb5.out).mono ?_
  rintro e w6 ⟨rfl, hb6⟩
  have HB6 := Lib.hid (HB5.out.kept hb6)
  have Hb6 : Hid (Below w.heap.size w w6) := Lib.hid (bel2 Hb5.out hb6)
  clear hb6
  go_wp2_with (refine wpl_load 60 _ rfl w.heap.size rfl _ _ _ HB6.out Tryz.underlying60 rfl 18 Tryz.infoPoint L18c.out rfl ?_)
  refine (C3.out w6 (HE.out.kept Hb6.out)).mono ?_
  rintro e w7 ⟨rfl, hb7⟩
  have hS0 : Blk w7.drew (w.heap.size) 60 (pnt cs cb n) ∧ Env E w7.drew ∧ Below w.heap.size w w7.drew := by
    have hbd := bel2 hb7 (below_drewN w7 1)
    exact ⟨HB6.out.kept hbd, HE.out.kept (bel2 Hb6.out hbd), bel2 Hb6.out hbd⟩
  clear hb7
  go_wp2_with fail
  refine wp_region_held_drew (S := fun w' => Blk w' (w.heap.size) 60 (pnt cs cb n) ∧ Env E w' ∧ Below w.heap.size w w') (by kernel_rfl) hS0 (fun hS => ?_)
  change wpAnyH _ _ _ _ _ 11 #[false, false, false, false, false, false, false, false, false, false, false] _ _
  refine wpAnyH_take (i := 0) (v := .agg (pnt cs cb n)) rfl (by kernel_rfl) (by kernel_rfl) (by kernel_rfl) (fun _ _ _ h => h) (yields_load 60 (.tmp 2) rfl (w.heap.size) (by kernel_rfl) _ _ _ (fun w h => h.1) Tryz.underlying60 rfl 18 Tryz.infoPoint L18c.out (by kernel_rfl)) hS ?_
  simp only [List.getElem_toArray, List.getElem_cons_zero, List.getElem_cons_succ, Act.put, List.setIfInBounds_toArray, List.set_cons_zero, List.set_cons_succ]
  refine wpAnyH_take (i := 2) (v := .agg (pnt cs cb n)) rfl (by kernel_rfl) (by kernel_rfl) (by kernel_rfl) (fun _ _ _ h => h) (yields_load 60 (.tmp 2) rfl (w.heap.size) (by kernel_rfl) _ _ _ (fun w h => h.1) Tryz.underlying60 rfl 18 Tryz.infoPoint L18c.out (by kernel_rfl)) hS ?_
  simp only [List.getElem_toArray, List.getElem_cons_zero, List.getElem_cons_succ, Act.put, List.setIfInBounds_toArray, List.set_cons_zero, List.set_cons_succ]
  refine wpAnyH_ready (rs := [1]) (by kernel_rfl) (by simp) ?_
  refine AllReadyH.cons rfl (fun K' hK => ?_) AllReadyH.nil
  refine step_call 39 #[.agg (pnt cs cb n)] (by kernel_rfl) (by kernel_rfl) (.bool R) (C1.out _) (fun v2 hv2 => hK.out _ _ (⟨hS.1.kept hv2, hS.2.1.kept hv2, bel2 hS.2.2 hv2⟩) (fun hS => ?_))
  simp only [List.getElem_toArray, List.getElem_cons_zero, List.getElem_cons_succ, Act.put, List.setIfInBounds_toArray, List.set_cons_zero, List.set_cons_succ]
  refine wpAnyH_ready (rs := [3]) (by kernel_rfl) (by simp) ?_
  refine AllReadyH.cons rfl (fun K' hK => ?_) AllReadyH.nil
  refine step_call 40 #[.agg (pnt cs cb n)] (by kernel_rfl) (by kernel_rfl) (.bool R) (C2.out _) (fun v3 hv3 => hK.out _ _ (⟨hS.1.kept hv3, hS.2.1.kept hv3, bel2 hS.2.2 hv3⟩) (fun hS => ?_))
  simp only [List.getElem_toArray, List.getElem_cons_zero, List.getElem_cons_succ, Act.put, List.setIfInBounds_toArray, List.set_cons_zero, List.set_cons_succ]
  refine wpAnyH_take (i := 4) (v := .bool false) rfl (by kernel_rfl) (by kernel_rfl) (by kernel_rfl) (fun _ _ _ h => h) (.inl ⟨by kernel_rfl, fun w _ => by cases R <;> kernel_rfl⟩) hS ?_
  simp only [List.getElem_toArray, List.getElem_cons_zero, List.getElem_cons_succ, Act.put, List.setIfInBounds_toArray, List.set_cons_zero, List.set_cons_succ]
  refine wpAnyH_take (i := 5) (v := .bool false) rfl (by kernel_rfl) (by kernel_rfl) (by kernel_rfl) (fun _ _ _ h => h) (.inl ⟨by kernel_rfl, fun w _ => by kernel_rfl⟩) hS ?_
  simp only [List.getElem_toArray, List.getElem_cons_zero, List.getElem_cons_succ, Act.put, List.setIfInBounds_toArray, List.set_cons_zero, List.set_cons_succ]
  refine wpAnyH_take (i := 6) (v := .string T) rfl (by kernel_rfl) (by kernel_rfl) (by kernel_rfl) (fun _ _ _ h => h) (.inl ⟨by kernel_rfl, fun w _ => by kernel_rfl⟩) hS ?_
  simp only [List.getElem_toArray, List.getElem_cons_zero, List.getElem_cons_succ, Act.put, List.setIfInBounds_toArray, List.set_cons_zero, List.set_cons_succ]
  refine wpAnyH_take (i := 7) (v := .agg (pnt cs cb n)) rfl (by kernel_rfl) (by kernel_rfl) (by kernel_rfl) (fun _ _ _ h => h) (yields_load 60 (.tmp 2) rfl (w.heap.size) (by kernel_rfl) _ _ _ (fun w h => h.1) Tryz.underlying60 rfl 18 Tryz.infoPoint L18c.out (by kernel_rfl)) hS ?_
  simp only [List.getElem_toArray, List.getElem_cons_zero, List.getElem_cons_succ, Act.put, List.setIfInBounds_toArray, List.set_cons_zero, List.set_cons_succ]
  refine wpAnyH_ready (rs := [8]) (by kernel_rfl) (by simp) ?_
  refine AllReadyH.cons rfl (fun K' hK => ?_) AllReadyH.nil
  rw [if_pos (by kernel_rfl)]
  refine op_call2 41 #[.agg (pnt cs cb n)] (by kernel_rfl) (.string T) (C4.out _) (fun v5 hv5 => hK.out _ _ (⟨hS.1.kept hv5, hS.2.1.kept hv5, bel2 hS.2.2 hv5⟩) (fun hS => ?_))
  simp only [List.getElem_toArray, List.getElem_cons_zero, List.getElem_cons_succ, Act.put, List.setIfInBounds_toArray, List.set_cons_zero, List.set_cons_succ]
  refine wpAnyH_take (i := 9) (v := .bool false) rfl (by kernel_rfl) (by kernel_rfl) (by kernel_rfl) (fun _ _ _ h => h) (.inl ⟨by kernel_rfl, fun w _ => exec_sneq2 9 9 (.tmp 52) (.tmp 54) rfl T (by kernel_rfl) (by kernel_rfl)⟩) hS ?_
  simp only [List.getElem_toArray, List.getElem_cons_zero, List.getElem_cons_succ, Act.put, List.setIfInBounds_toArray, List.set_cons_zero, List.set_cons_succ]
  refine wpAnyH_take (i := 10) (v := .bool false) rfl (by kernel_rfl) (by kernel_rfl) (by kernel_rfl) (fun _ _ _ h => h) (.inl ⟨by kernel_rfl, fun w _ => by kernel_rfl⟩) hS ?_
  simp only [List.getElem_toArray, List.getElem_cons_zero, List.getElem_cons_succ, Act.put, List.setIfInBounds_toArray, List.set_cons_zero, List.set_cons_succ]
  refine wpAnyH_done (by kernel_rfl) ?_ _
  have HS := Lib.hid hS
  clear hS
  have HBc : Hid (Blk v5 (w.heap.size) 60 (pnt cs cb n)) := Lib.hid HS.out.1
  go_wp2_with (refine wpl_load 60 _ rfl w.heap.size rfl _ _ _ HBc.out Tryz.underlying60 rfl 18 Tryz.infoPoint L18c.out rfl ?_)
  refine (C2.out v5).mono ?_
  rintro e v6 ⟨rfl, hb6⟩
  have HBc6 := Lib.hid (HBc.out.kept hb6)
  have HE6 : Hid (Env E v6 ∧ Below w.heap.size w v6) := Lib.hid ⟨HS.out.2.1.kept hb6, bel2 HS.out.2.2 hb6⟩
  clear hb6 HS HBc
  cases R with
  | false =>
    go_wp2
    go_ret
    exact ⟨rfl, HE6.out.2⟩
  | true =>
    go_wp2_with fail
    refine (C5.out (by simp) v6 HE6.out.1).mono ?_
    rintro e v8 ⟨rfl, hb8⟩
    have HBc8 := Lib.hid (HBc6.out.kept hb8)
    have Hb8 := Lib.hid (bel2 HE6.out.2 hb8)
    clear hb8
    obtain ⟨W9, hW9⟩ : ∃ W, W = v8.alloc (.cells (pnt false z16 0) 60) := ⟨_, rfl⟩
    have hBW9 : Blk W9 v8.heap.size 60 (pnt false z16 0) := hW9 ▸ Blk.new v8 _ _
    have hbW9 : Below v8.heap.size v8 W9 := hW9 ▸ (Below.refl _ _).alloc (Nat.le_refl _) _
    have HW9 : Hid (v8.alloc (.cells #[.bool false, .int .u8 0, .int .u8 0, .int .u8 0, .int .u8 0, .int .u8 0, .int .u8 0, .int .u8 0, .int .u8 0, .int .u8 0, .int .u8 0, .int .u8 0, .int .u8 0, .int .u8 0, .int .u8 0, .int .u8 0, .int .u8 0, .int .i64 0] 60) = W9) := Lib.hid hW9.symm
    have HBW9 := Lib.hid hBW9
    obtain ⟨V9, hV9⟩ : ∃ V, V = W9.setRow v8.heap.size (pnt cs cb n) := ⟨_, rfl⟩
    have HV9 := Lib.hid hV9.symm
    have hblV9 : Below v8.heap.size v8 V9 := hV9 ▸ below_setRow hbW9 (Nat.le_refl _) _
    have HNV9 : Hid (Blk V9 v8.heap.size 60 (pnt cs cb n)) := Lib.hid (hV9 ▸ hBW9.row _)
    have HBc9 := Lib.hid (HBc8.out.kept hblV9)
    have Hb9 : Hid (Below w.heap.size w V9) := Lib.hid (bel2 Hb8.out hblV9)
    have hq : ∀ w, (binOp .eql 60 (.agg (pnt cs cb n)) (.agg (pnt cs cb n))).run Tryz.prog w = .ok (.bool true) w := fun w => by
      have := HQ.out w
      rw [show ((cs == cs && cb == cb) && n == n) = true by simp] at this
      exact this
    clear hW9 hBW9 hbW9 hV9 hblV9
    go_wp2_with ((try rw [HW9.out]); first | (refine wpl_store 60 _ _ rfl v8.heap.size (pnt cs cb n) rfl rfl _ _ HBW9.out 18 Tryz.infoPoint L18c.out rfl (pnt_one _ _ _) rfl ?_; rw [HV9.out]) | (refine wpl_load 60 _ rfl v8.heap.size rfl _ _ _ HNV9.out Tryz.underlying60 rfl 18 Tryz.infoPoint L18c.out rfl ?_) | (refine wpl_load 60 _ rfl w.heap.size rfl _ _ _ HBc9.out Tryz.underlying60 rfl 18 Tryz.infoPoint L18c.out rfl ?_))
    go_ret
    exact ⟨rfl, Hb9.out⟩

end Go.Proofs.YtnfkgoeocebenaaGreatDoor
